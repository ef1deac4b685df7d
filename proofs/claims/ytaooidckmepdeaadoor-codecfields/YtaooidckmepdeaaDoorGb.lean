/- Lat En Pd Pe Ds Tx Pf De Op Lw Cn Alk Rr Ri in one text (wip/tools/merge20.py). -/
import Derived.Deep.RegionHeld3
import Derived.StillTail
import Derived.Test.YtaooidckmepdeaaDoorGa
import Derived.Laws.ResultCell
import Derived.WalkKit
import Derived.OpenShut
import Derived.ChangeSame
import Derived.Laws.StructEq
import Derived.OwnWalk
namespace Go.Proofs.YtaooidckmepdeaaDoor
set_option linter.unusedSimpArgs false
set_option linter.unusedVariables false
section
variable {P : Program} {ops : Array Oper} {Q : Exit → Act → World → Prop} {md : Region.Mode} {S : World → Prop} {n : Nat}
/-- Whatever order; S behind every operation but those from number n on. -/
def Lat (P : Program) (md : Region.Mode) (ops : Array Oper) (Q : Exit → Act → World → Prop) (S : World → Prop) (n : Nat) : Nat → Array Bool → Act → World → Prop
  | 0, l, a, w => Region.ready md ops l = [] ∧ Q .normal a w
  | f + 1, l, a, w => (Region.ready md ops l = [] → Q .normal a w) ∧ ∀ i ∈ Region.ready md ops l, wpOp P ops Q i (fun a' w' => (i < n → S w') ∧ Lat P md ops Q S n f (l.setIfInBounds i true) a' w') a w
theorem Lat.any : ∀ (f : Nat) (l : Array Bool) (a : Act) (w : World), Lat P md ops Q S n f l a w → wpAny P md ops Q f l a w
  | 0, _, _, _, h => h
  | f + 1, _, _, _, h => ⟨h.1, fun i hi => wpOp_mono (fun a' w' h' => Lat.any f _ a' w' h'.2) (h.2 i hi)⟩
theorem Lat.first {i : Nat} {oi : Oper} {v : Value} (hi : ops[i]? = some oi) (hsel : ∀ (j : Nat) (o : Oper) cs b, ops[j]? = some o → o.op ≠ .select cs b)
    (hs : Region.sinkB md ops n = true) (hc : Region.chainB md ops n = true) (hn : n < ops.size) (hin : i < n) (hQ : ∀ c a w, Q (.panic c) (a.put oi.dst v) w → Q (.panic c) a w) (f : Nat) :
    ∀ (l : Array Bool) (a : Act) (w : World), HeadInv md ops n l → (∀ j oj, ops[j]? = some oj → j ≠ i → l.getD j true = false → (∀ e ∈ oj.after, Region.binds md e = true → e.on ≠ i) → oi.apart ops oj = true) →
      i ∈ Region.ready md ops l → YieldsIf P ops S oi v a → S w → Lat P md ops Q S n f (l.setIfInBounds i true) (a.put oi.dst v) w → Lat P md ops Q S n (f + 1) l a w := by
  induction f with
  | zero =>
    intro l a w inv hfree hr hy hS H
    refine ⟨fun h => absurd hr (by rw [h]; simp), fun j hj => ?_⟩
    by_cases hji : j = i
    · subst hji; exact hy.wpOp hi hS ⟨fun _ => hS, H⟩
    · exact absurd (ready_mono hj hji) (by rw [H.1]; simp)
  | succ f ih =>
    intro l a w inv hfree hr hy hS H
    refine ⟨fun h => absurd hr (by rw [h]; simp), fun j hj => ?_⟩
    have hun := (mem_ready.1 hr).1
    by_cases hji : j = i
    · subst hji; exact hy.wpOp hi hS ⟨fun _ => hS, H⟩
    have hjn : j < n := by
      rcases Nat.lt_or_ge j n with h | h
      · exact h
      · exact absurd hj (tail_waits hs hc hn inv _ i rfl hin hun j h)
    obtain ⟨hjun, oj, hoj, hall⟩ := mem_ready.1 hj
    have hnot : ∀ e ∈ oj.after, Region.binds md e = true → e.on ≠ i := fun e he hb heq => by
      have h1 := hall e he hb
      rw [heq, getD_both hun] at h1
      cases h1
    have h2 := wpOp_putIf hoj (hfree j oj hoj hji hjun hnot) (fun cs b => hsel i oi cs b hi) (fun cs b => hsel j oj cs b hoj) hQ hy (H.2 j (ready_mono hj hji))
    refine wpOp_mono (fun a' w' h3 => ⟨h3.2.1, ih _ a' w' (inv.set hj hjn) (fun k ok hk hki hun2 hno => hfree k ok hk hki ?_ hno) (ready_mono hr (Ne.symm hji)) h3.1 (h3.2.1 hjn) ?_⟩) h2
    · by_cases hjk : j = k
      · subst hjk; exact hjun
      · rw [getD_set_ne true hjk] at hun2; exact hun2
    · rw [Array.setIfInBounds_comm _ _ hji]
      exact h3.2.2
/-- The same, with what is listed closed. -/
def LatI (P : Program) (md : Region.Mode) (ops : Array Oper) (Q : Exit → Act → World → Prop) (S : World → Prop) (n f : Nat) (l : Array Bool) (a : Act) (w : World) : Prop := HeadInv md ops n l → Lat P md ops Q S n f l a w
theorem LatI.take {i : Nat} {oi : Oper} {v : Value} {f : Nat} {l : Array Bool} {a : Act} {w : World} (hi : ops[i]? = some oi) (hsel : Region.noSelect ops = true)
    (hs : (Region.sinkB md ops n && Region.chainB md ops n && decide (n < ops.size) && decide (i < n)) = true) (hf : Region.free md ops l i = true) (hr : (Region.ready md ops l).contains i = true)
    (hQ : ∀ c a w, Q (.panic c) (a.put oi.dst v) w → Q (.panic c) a w) (hy : YieldsIf P ops S oi v a) (hS : S w)
    (h : LatI P md ops Q S n f (l.setIfInBounds i true) (a.put oi.dst v) w) : LatI P md ops Q S n (f + 1) l a w := fun inv => by
  simp only [Bool.and_eq_true, decide_eq_true_eq] at hs
  obtain ⟨⟨⟨h1, h2⟩, h3⟩, h4⟩ := hs
  have hr' : i ∈ Region.ready md ops l := by simpa using hr
  exact Lat.first hi (Region.noSelect_spec hsel) h1 h2 h3 h4 hQ f l a w inv (Region.free_spec hi hf) hr' hy hS (h (inv.set hr' h4))
theorem LatI.one {i : Nat} {o : Oper} {f : Nat} {l : Array Bool} {a : Act} {w : World} (ho : ops[i]? = some o) (hr : Region.ready md ops l = [i]) (hin : i < n)
    (h : ∀ K : Act → World → Prop, Shut (∀ a w, S w → (S w → LatI P md ops Q S n f (l.setIfInBounds i true) a w) → K a w) → if Region.wanted o (yielded ops a.tmps) = true then Oper.wp P o a w K Q else K (a.put o.dst undef) w) :
    LatI P md ops Q S n (f + 1) l a w := fun inv => by
  refine ⟨fun h0 => absurd h0 (by rw [hr]; simp), fun j hj => ?_⟩
  rw [hr] at hj
  obtain rfl : j = i := by simpa using hj
  exact wpOp_step ho fun K hK => h K fun a w hS hW => hK a w ⟨fun _ => hS, hW hS (inv.set (by rw [hr]; simp) hin)⟩
/-- Two that are ready at once: either order. -/
theorem LatI.two {i j : Nat} {oi oj : Oper} {f : Nat} {l : Array Bool} {a : Act} {w : World} (hoi : ops[i]? = some oi) (hoj : ops[j]? = some oj) (hr : Region.ready md ops l = [i, j]) (hin : i < n) (hjn : j < n)
    (h1 : ∀ K : Act → World → Prop, Shut (∀ a w, S w → (S w → LatI P md ops Q S n f (l.setIfInBounds i true) a w) → K a w) → if Region.wanted oi (yielded ops a.tmps) = true then Oper.wp P oi a w K Q else K (a.put oi.dst undef) w)
    (h2 : ∀ K : Act → World → Prop, Shut (∀ a w, S w → (S w → LatI P md ops Q S n f (l.setIfInBounds j true) a w) → K a w) → if Region.wanted oj (yielded ops a.tmps) = true then Oper.wp P oj a w K Q else K (a.put oj.dst undef) w) :
    LatI P md ops Q S n (f + 1) l a w := fun inv => by
  refine ⟨fun h0 => absurd h0 (by rw [hr]; simp), fun k hk => ?_⟩
  have hk' := hk
  rw [hr] at hk
  rcases List.mem_cons.1 hk with rfl | hk
  · exact wpOp_step hoi fun K hK => h1 K fun a w hS hW => hK a w ⟨fun _ => hS, hW hS (inv.set hk' hin)⟩
  · obtain rfl : k = j := by simpa using hk
    exact wpOp_step hoj fun K hK => h2 K fun a w hS hW => hK a w ⟨fun _ => hS, hW hS (inv.set hk' hjn)⟩
theorem LatI.last {i : Nat} {o : Oper} {f : Nat} {l : Array Bool} {a : Act} {w : World} (ho : ops[i]? = some o) (hr : Region.ready md ops l = [i]) (hin : n ≤ i) (he : Region.ready md ops (l.setIfInBounds i true) = [])
    (h : ∀ K : Act → World → Prop, Shut (∀ a w, Q .normal a w → K a w) → if Region.wanted o (yielded ops a.tmps) = true then Oper.wp P o a w K Q else K (a.put o.dst undef) w) :
    LatI P md ops Q S n (f + 1) l a w := fun inv => by
  refine ⟨fun h0 => absurd h0 (by rw [hr]; simp), fun j hj => ?_⟩
  rw [hr] at hj
  obtain rfl : j = i := by simpa using hj
  refine wpOp_step ho fun K hK => h K fun a w hW => hK a w ⟨fun h => by omega, ?_⟩
  cases f with
  | zero => exact ⟨he, hW⟩
  | succ f => exact ⟨fun _ => hW, fun k hk => by rw [he] at hk; cases hk⟩
theorem wp_region_lat (S : World → Prop) (n : Nat) {id : Nat} {a : Act} {w : World} (hm : P.follows .mixedOrders = true) (hS : S w.drew) (h : S w.drew → LatI P .any ops Q S n ops.size (Array.replicate ops.size false) a w.drew) : (Code.region id ops true).wp P Q a w :=
  wp_region_any hm (Lat.any _ _ _ _ (h hS ⟨by simp, fun j oj _ hl => (by rw [getD_replicate_false] at hl; cases hl), fun t _ ht => getD_in (by simpa using ht) (getD_replicate_false _ _)⟩))
end
section
variable {P : Program} {L : List Oper} {Q : Exit → Act → World → Prop} {md : Region.Mode} {S : World → Prop} {n : Nat}
theorem lat_at {i : Nat} {o : Oper} {r : List Oper} (h : L.drop i = o :: r) : L.toArray[i]? = some o := by
  have : L[i]? = some o := by
    have h2 := congrArg (fun x => x[0]?) h
    simpa using h2
  simpa using this
theorem lat_take (i : Nat) {o : Oper} {r : List Oper} {v : Value} {f : Nat} {l : Array Bool} {a : Act} {w : World} (hi : L.drop i = o :: r) (hsel : Region.noSelect L.toArray = true)
    (hs : (Region.sinkB md L.toArray n && Region.chainB md L.toArray n && decide (n < L.toArray.size) && decide (i < n)) = true) (hf : Region.free md L.toArray l i = true) (hr : (Region.ready md L.toArray l).contains i = true)
    (hQ : ∀ c a w, Q (.panic c) (a.put o.dst v) w → Q (.panic c) a w) (hw : Region.wanted o (yielded L.toArray a.tmps) = true) (hy : ∀ w, S w → (execOp a.eval o).run P w = .ok (.value v) w) (hS : S w)
    (h : LatI P md L.toArray Q S n f (l.setIfInBounds i true) (a.put o.dst v) w) : LatI P md L.toArray Q S n (f + 1) l a w := LatI.take (lat_at hi) hsel hs hf hr hQ (.inl ⟨hw, hy⟩) hS h
theorem lat_one (i : Nat) {o : Oper} {r : List Oper} {f : Nat} {l : Array Bool} {a : Act} {w : World} (hi : L.drop i = o :: r) (hr : Region.ready md L.toArray l = [i]) (hin : i < n) (hw : Region.wanted o (yielded L.toArray a.tmps) = true)
    (h : ∀ K : Act → World → Prop, Shut (∀ a w, S w → (S w → LatI P md L.toArray Q S n f (l.setIfInBounds i true) a w) → K a w) → Oper.wp P o a w K Q) :
    LatI P md L.toArray Q S n (f + 1) l a w := LatI.one (lat_at hi) hr hin fun K hK => by rw [if_pos hw]; exact h K hK
theorem lat_two (i j : Nat) {oi oj : Oper} {ri rj : List Oper} {f : Nat} {l : Array Bool} {a : Act} {w : World} (hi : L.drop i = oi :: ri) (hj : L.drop j = oj :: rj) (hr : Region.ready md L.toArray l = [i, j]) (hin : i < n) (hjn : j < n) (hwi : Region.wanted oi (yielded L.toArray a.tmps) = true) (hwj : Region.wanted oj (yielded L.toArray a.tmps) = true)
    (h1 : ∀ K : Act → World → Prop, Shut (∀ a w, S w → (S w → LatI P md L.toArray Q S n f (l.setIfInBounds i true) a w) → K a w) → Oper.wp P oi a w K Q)
    (h2 : ∀ K : Act → World → Prop, Shut (∀ a w, S w → (S w → LatI P md L.toArray Q S n f (l.setIfInBounds j true) a w) → K a w) → Oper.wp P oj a w K Q) :
    LatI P md L.toArray Q S n (f + 1) l a w := LatI.two (lat_at hi) (lat_at hj) hr hin hjn (fun K hK => by rw [if_pos hwi]; exact h1 K hK) (fun K hK => by rw [if_pos hwj]; exact h2 K hK)
theorem lat_last (i : Nat) {o : Oper} {r : List Oper} {f : Nat} {l : Array Bool} {a : Act} {w : World} (hi : L.drop i = o :: r) (hr : Region.ready md L.toArray l = [i]) (hin : n ≤ i) (he : Region.ready md L.toArray (l.setIfInBounds i true) = []) (hw : Region.wanted o (yielded L.toArray a.tmps) = true)
    (h : ∀ K : Act → World → Prop, Shut (∀ a w, Q .normal a w → K a w) → Oper.wp P o a w K Q) :
    LatI P md L.toArray Q S n (f + 1) l a w := LatI.last (lat_at hi) hr hin he fun K hK => by rw [if_pos hw]; exact h K hK
end
theorem lat_skip {P : Program} {L : List Oper} {Q : Exit → Act → World → Prop} {md : Region.Mode} {S : World → Prop} {n : Nat} (i : Nat) {o : Oper} {r : List Oper} {f : Nat} {l : Array Bool} {a : Act} {w : World} (hi : L.drop i = o :: r) (hsel : Region.noSelect L.toArray = true)
    (hs : (Region.sinkB md L.toArray n && Region.chainB md L.toArray n && decide (n < L.toArray.size) && decide (i < n)) = true) (hf : Region.free md L.toArray l i = true) (hr : (Region.ready md L.toArray l).contains i = true)
    (hQ : ∀ c a w, Q (.panic c) (a.put o.dst undef) w → Q (.panic c) a w) (hw : Region.wanted o (yielded L.toArray a.tmps) = false) (hS : S w)
    (h : LatI P md L.toArray Q S n f (l.setIfInBounds i true) (a.put o.dst undef) w) : LatI P md L.toArray Q S n (f + 1) l a w := LatI.take (lat_at hi) hsel hs hf hr hQ (.inr ⟨hw, rfl⟩) hS h
end Go.Proofs.YtaooidckmepdeaaDoor
namespace Go.Proofs.YtaooidckmepdeaaDoor
set_option linter.unusedSimpArgs false
set_option linter.unusedVariables false
open Go.RowKit
/-- A record's bytes. -/
def encL (r : Rc) (first : Int) : List Nat := headN r :: (groups r.o.toNat ++ (groups (zig (r.t - first)).toNat ++ (textL r.hk r.k ++ textL r.hv r.v)))
def encE (r : Rc) (first : Int) : Int := if chk r = 0 then (if timeB first = true then 0 else 1) else chk r
def encR (r : Rc) (first : Int) : List Nat := if encE r first = 0 then encL r first else []
/-- The box of a record, and nothing elder has turned. -/
def SE (w : World) (b : Nat) (hk : Bool) (k : ByteArray) (hv : Bool) (v : ByteArray) (t o : Int) (y : World) : Prop :=
  (y.cell? ⟨b, 0, none⟩ = some (.bool hk) ∧ y.cell? ⟨b, 1, none⟩ = some (.string k) ∧ y.cell? ⟨b, 2, none⟩ = some (.bool hv) ∧ y.cell? ⟨b, 3, none⟩ = some (.string v) ∧ y.cell? ⟨b, 4, none⟩ = some (.int .i64 t) ∧ y.cell? ⟨b, 5, none⟩ = some (.int .i64 o)) ∧ Below w.heap.size w y
theorem SE.below {w y y' : World} {b : Nat} {hk : Bool} {k : ByteArray} {hv : Bool} {v : ByteArray} {t o : Int} (h : SE w b hk k hv v t o y) (hb : Below y.heap.size y y') : SE w b hk k hv v t o y' := by
  obtain ⟨⟨h0, h1, h2, h3, h4, h5⟩, hB⟩ := h
  exact ⟨⟨(hb.cell (World.block_lt_of_cell? _ _ h0)).trans h0, (hb.cell (World.block_lt_of_cell? _ _ h1)).trans h1, (hb.cell (World.block_lt_of_cell? _ _ h2)).trans h2, (hb.cell (World.block_lt_of_cell? _ _ h3)).trans h3, (hb.cell (World.block_lt_of_cell? _ _ h4)).trans h4, (hb.cell (World.block_lt_of_cell? _ _ h5)).trans h5⟩, hB.trans (hb.mono hB.size)⟩
theorem SE.new (w : World) (r : Rc) : SE w w.heap.size r.hk r.k r.hv r.v r.t r.o (w.alloc (.cells r.cells 87)) := by
  have hc : ∀ j, (w.alloc (.cells r.cells 87)).cell? ⟨w.heap.size, j, none⟩ = r.cells[j]? := fun j => cell_of_row _ w.heap.size j r.cells 87 (0, 0) (heap_alloc_new w _)
  exact ⟨⟨by rw [hc]; rfl, by rw [hc]; rfl, by rw [hc]; rfl, by rw [hc]; rfl, by rw [hc]; rfl, by rw [hc]; rfl⟩, below_box _⟩
theorem owns_sl {w : World} {B : Nat} {v : Value} {l : List Nat} (h : w.ownsRow B 5 1 v l.length (cv l)) (hb : ∀ i, l.getD i 0 < 256) : ∃ a c, v = .slice a l.length c ∧ Row w a l ∧ (a = none → c = 0) := by
  rcases h.2 with ⟨rfl, h0⟩ | ⟨g, cap, cur, rfl, hB, hg, hle, hm, _, _⟩
  · refine ⟨none, 0, by rw [h0], ?_, fun _ => rfl⟩
    intro i hi; omega
  · exact ⟨_, cap, rfl, Own.row (B := B) (cap := cap) h hb, fun c => by cases c⟩
theorem app_lt {l m : List Nat} (h : ∀ i, l.getD i 0 < 256) (h2 : ∀ i, m.getD i 0 < 256) : ∀ i, (l ++ m).getD i 0 < 256 := by
  intro i
  have h1 := h i
  have h3 := h2 (i - l.length)
  simp only [List.getD, List.getElem?_append] at *
  split <;> assumption
theorem text_lt (there : Bool) (s : ByteArray) (hs : s.size ≤ 2000) : ∀ i, (textL there s).getD i 0 < 256 := by
  unfold textL
  split
  · exact app_lt (groups_lt _ (by omega)) (sb_lt s)
  · intro i; simp
/-- A call that makes a row of bytes. -/
def Makes (f : Nat) (args : Array Value) (l : List Nat) : Prop := ∀ w', Calls Tryd.prog f args w' fun e w2 => ∃ a c, e = .returned (.slice a l.length c) ∧ Row w2 a l ∧ (a = none → c = 0) ∧ Below w'.heap.size w' w2
theorem varint_makes (V : Nat) (h : V ≤ 18446744073709551615) : Makes 108 #[.int .u64 V] (groups V) := fun w' => by
  refine (varint_any V w' h).mono ?_
  rintro e w2 ⟨v, rfl, hown, hb⟩
  obtain ⟨a, c, rfl, hr, hn⟩ := owns_sl hown (groups_lt V h)
  exact ⟨a, c, rfl, hr, hn, hb⟩
theorem text_makes (there : Bool) (s : ByteArray) (hs : s.size ≤ 2000) : Makes 110 #[.bool there, .string s] (textL there s) := fun w' => by
  refine (text_any there s w' hs).mono ?_
  rintro e w2 ⟨v, rfl, hown, hb⟩
  obtain ⟨a, c, rfl, hr, hn⟩ := owns_sl hown (text_lt there s hs)
  exact ⟨a, c, rfl, hr, hn, hb⟩
theorem head_row (w : World) (h : Nat) (hh : h < 256) : Row (w.alloc (.cells #[.int .u8 (h : Int)] 5)) (some ⟨w.heap.size, 0, none⟩) [h] ∧ Below w.heap.size w (w.alloc (.cells #[.int .u8 (h : Int)] 5)) :=
  ⟨row_alloc w [h] (by intro i; match i with
                       | 0 => simpa
                       | i + 1 => simp), below_box _⟩
theorem pc_five (W : World) {a1 a2 a3 a4 : Option Addr} {c1 c2 c3 c4 h : Nat} {l1 l2 l3 l4 : List Nat} {g0 : Nat} (R0 : Row W (some ⟨g0, 0, none⟩) [h]) (R1 : Row W a1 l1) (R2 : Row W a2 l2) (R3 : Row W a3 l3) (R4 : Row W a4 l4)
    (n1 : a1 = none → c1 = 0) (n2 : a2 = none → c2 = 0) (n3 : a3 = none → c3 = 0) (n4 : a4 = none → c4 = 0) :
    PcAt (W.alloc (.cells #[.slice (some ⟨g0, 0, none⟩) 1 1, .slice a1 l1.length c1, .slice a2 l2.length c2, .slice a3 l3.length c3, .slice a4 l4.length c4] 29)) W.heap.size [(some ⟨g0, 0, none⟩, 1, [h]), (a1, c1, l1), (a2, c2, l2), (a3, c3, l3), (a4, c4, l4)] := by
  refine pc_new W _ [.slice (some ⟨g0, 0, none⟩) 1 1, .slice a1 l1.length c1, .slice a2 l2.length c2, .slice a3 l3.length c3, .slice a4 l4.length c4] (by simp) ?_
  intro p hp
  simp only [List.mem_cons, List.not_mem_nil, or_false] at hp
  rcases hp with rfl | rfl | rfl | rfl | rfl
  · exact ⟨R0, fun c => by cases c⟩
  · exact ⟨R1, n1⟩
  · exact ⟨R2, n2⟩
  · exact ⟨R3, n3⟩
  · exact ⟨R4, n4⟩
theorem join_five {P : Nat} {W : World} {p0 p1 p2 p3 p4 : Option Addr × Nat × List Nat} (h : PcAt W P [p0, p1, p2, p3, p4]) {L : List Nat} (hfl : flat [p0, p1, p2, p3, p4] = L) (hl : L.length ≤ 1000000) :
    Calls Tryd.prog 106 #[.slice (some ⟨P, 0, none⟩) 5 5] W fun e w' => ∃ v, e = .returned v ∧ w'.ownsRow W.heap.size 5 1 v L.length (cv L) ∧ Below W.heap.size W w' := by
  have := join_any P 5 [p0, p1, p2, p3, p4] W h (by simp) (by rw [hfl]; exact hl)
  rw [hfl] at this
  exact this
set_option maxRecDepth 100000 in
set_option maxHeartbeats 1600000 in
theorem encode_ok (hk : Bool) (k : ByteArray) (hv : Bool) (v : ByteArray) (t : Int) (o : Nat) (first : Int) (w : World) (h zn : Nat) (l1 l2 l3 l4 : List Nat) (hh : h < 256)
    (HC : Hid (∀ w', Calls Tryd.prog 102 #[.agg #[.bool hk, .string k, .bool hv, .string v, .int .i64 t, .int .i64 (o : Int)]] w' fun e w2 => e = .returned (.int .i64 0) ∧ Below w'.heap.size w' w2))
    (HI : Hid (∀ w', Calls Tryd.prog 105 #[.int .i64 first] w' fun e w2 => e = .returned (.bool true) ∧ w2 = w'))
    (HH : Hid (∀ w', Calls Tryd.prog 107 #[.agg #[.bool hk, .string k, .bool hv, .string v, .int .i64 t, .int .i64 (o : Int)]] w' fun e w2 => e = .returned (.int .u8 (h : Int)) ∧ Below w'.heap.size w' w2))
    (HV1 : Hid (Makes 108 #[.int .u64 (o : Int)] l1)) (HZ : Hid (∀ w', Calls Tryd.prog 109 #[.int .i64 (t - first)] w' fun e w2 => e = .returned (.int .u64 (zn : Int)) ∧ w2 = w'))
    (HV2 : Hid (Makes 108 #[.int .u64 (zn : Int)] l2)) (HT1 : Hid (Makes 110 #[.bool hk, .string k] l3)) (HT2 : Hid (Makes 110 #[.bool hv, .string v] l4))
    (hwo : IntKind.u64.wrap (o : Int) = (o : Int)) (hwt : IntKind.i64.wrap (t - first) = t - first) (L : List Nat) (HFL : Hid (∀ x c a1 c1 a2 c2 a3 c3 a4 c4, flat [(x, c, [h]), (a1, c1, l1), (a2, c2, l2), (a3, c3, l3), (a4, c4, l4)] = L)) (HEL : Hid (L.length ≤ 1000000)) :
    Calls Tryd.prog 103 #[.agg #[.bool hk, .string k, .bool hv, .string v, .int .i64 t, .int .i64 (o : Int)], .int .i64 first] w fun e w' => ∃ v, e = .returned (.tuple #[v, .int .i64 0]) ∧ w'.ownsRow w.heap.size 5 1 v L.length (cv L) ∧ Below w.heap.size w w' := by
  go_enter Tryd.func103, Tryd.ntmps103
  go_wp2_with (first
    | (go_at_call 102; refine (HC.out _).mono ?_; rintro e w1 ⟨rfl, hb1⟩)
    | (go_at_call 105; refine (HI.out _).mono ?_; rintro e w2 ⟨rfl, hw⟩; subst w2))
  have hS0 : SE w w.heap.size hk k hv v t (o : Int) w1.drew := by
    have := SE.below (SE.new w ⟨hk, k, hv, v, t, o⟩) hb1
    exact ⟨this.1, this.2.drew⟩
  clear hb1 HC HI
  refine wp_region_lat (SE w w.heap.size hk k hv v t (o : Int)) 26 (by kernel_rfl) hS0 (fun hHeld => ?_)
  clear hS0
  refine lat_take 0 (v := ?_) rfl (by kernel_rfl) (by kernel_rfl) (by kernel_rfl) (by kernel_rfl) (fun _ _ _ h => h) (by rfl) ?_ (by assumption) ?_
  rotate_left
  · (intro w hSw; obtain ⟨⟨z0, z1, z2, z3, z4, z5⟩, zb⟩ := hSw; go_simp <;> with_reducible rfl)
  try simp only [Act.put, List.setIfInBounds_toArray, List.set_cons_zero, List.set_cons_succ]
  refine lat_take 3 (v := ?_) rfl (by kernel_rfl) (by kernel_rfl) (by kernel_rfl) (by kernel_rfl) (fun _ _ _ h => h) (by rfl) ?_ (by assumption) ?_
  rotate_left
  · (intro w hSw; obtain ⟨⟨z0, z1, z2, z3, z4, z5⟩, zb⟩ := hSw; go_simp <;> with_reducible rfl)
  try simp only [Act.put, List.setIfInBounds_toArray, List.set_cons_zero, List.set_cons_succ]
  refine lat_take 4 (v := ?_) rfl (by kernel_rfl) (by kernel_rfl) (by kernel_rfl) (by kernel_rfl) (fun _ _ _ h => h) (by rfl) ?_ (by assumption) ?_
  rotate_left
  · (intro w hSw; obtain ⟨⟨z0, z1, z2, z3, z4, z5⟩, zb⟩ := hSw; go_simp <;> with_reducible rfl)
  try simp only [Act.put, List.setIfInBounds_toArray, List.set_cons_zero, List.set_cons_succ]
  refine lat_take 5 (v := ?_) rfl (by kernel_rfl) (by kernel_rfl) (by kernel_rfl) (by kernel_rfl) (fun _ _ _ h => h) (by rfl) ?_ (by assumption) ?_
  rotate_left
  · (intro w hSw; obtain ⟨⟨z0, z1, z2, z3, z4, z5⟩, zb⟩ := hSw; go_simp <;> with_reducible rfl)
  try simp only [Act.put, List.setIfInBounds_toArray, List.set_cons_zero, List.set_cons_succ]
  refine lat_take 7 (v := ?_) rfl (by kernel_rfl) (by kernel_rfl) (by kernel_rfl) (by kernel_rfl) (fun _ _ _ h => h) (by rfl) ?_ (by assumption) ?_
  rotate_left
  · (intro w hSw; obtain ⟨⟨z0, z1, z2, z3, z4, z5⟩, zb⟩ := hSw; go_simp <;> with_reducible rfl)
  try simp only [Act.put, List.setIfInBounds_toArray, List.set_cons_zero, List.set_cons_succ]
  refine lat_take 8 (v := ?_) rfl (by kernel_rfl) (by kernel_rfl) (by kernel_rfl) (by kernel_rfl) (fun _ _ _ h => h) (by rfl) ?_ (by assumption) ?_
  rotate_left
  · (intro w hSw; obtain ⟨⟨z0, z1, z2, z3, z4, z5⟩, zb⟩ := hSw; go_simp <;> with_reducible rfl)
  try simp only [Act.put, List.setIfInBounds_toArray, List.set_cons_zero, List.set_cons_succ]
  refine lat_take 9 (v := ?_) rfl (by kernel_rfl) (by kernel_rfl) (by kernel_rfl) (by kernel_rfl) (fun _ _ _ h => h) (by rfl) ?_ (by assumption) ?_
  rotate_left
  · (intro w hSw; obtain ⟨⟨z0, z1, z2, z3, z4, z5⟩, zb⟩ := hSw; go_simp <;> with_reducible rfl)
  try simp only [Act.put, List.setIfInBounds_toArray, List.set_cons_zero, List.set_cons_succ]
  refine lat_take 10 (v := ?_) rfl (by kernel_rfl) (by kernel_rfl) (by kernel_rfl) (by kernel_rfl) (fun _ _ _ h => h) (by rfl) ?_ (by assumption) ?_
  rotate_left
  · (intro w hSw; obtain ⟨⟨z0, z1, z2, z3, z4, z5⟩, zb⟩ := hSw; go_simp <;> with_reducible rfl)
  try simp only [Act.put, List.setIfInBounds_toArray, List.set_cons_zero, List.set_cons_succ]
  refine lat_take 13 (v := ?_) rfl (by kernel_rfl) (by kernel_rfl) (by kernel_rfl) (by kernel_rfl) (fun _ _ _ h => h) (by rfl) ?_ (by assumption) ?_
  rotate_left
  · (intro w hSw; obtain ⟨⟨z0, z1, z2, z3, z4, z5⟩, zb⟩ := hSw; go_simp <;> with_reducible rfl)
  try simp only [Act.put, List.setIfInBounds_toArray, List.set_cons_zero, List.set_cons_succ]
  refine lat_take 14 (v := ?_) rfl (by kernel_rfl) (by kernel_rfl) (by kernel_rfl) (by kernel_rfl) (fun _ _ _ h => h) (by rfl) ?_ (by assumption) ?_
  rotate_left
  · (intro w hSw; obtain ⟨⟨z0, z1, z2, z3, z4, z5⟩, zb⟩ := hSw; go_simp <;> with_reducible rfl)
  try simp only [Act.put, List.setIfInBounds_toArray, List.set_cons_zero, List.set_cons_succ]
  refine lat_take 15 (v := ?_) rfl (by kernel_rfl) (by kernel_rfl) (by kernel_rfl) (by kernel_rfl) (fun _ _ _ h => h) (by rfl) ?_ (by assumption) ?_
  rotate_left
  · (intro w hSw; obtain ⟨⟨z0, z1, z2, z3, z4, z5⟩, zb⟩ := hSw; go_simp <;> with_reducible rfl)
  try simp only [Act.put, List.setIfInBounds_toArray, List.set_cons_zero, List.set_cons_succ]
  refine lat_take 16 (v := ?_) rfl (by kernel_rfl) (by kernel_rfl) (by kernel_rfl) (by kernel_rfl) (fun _ _ _ h => h) (by rfl) ?_ (by assumption) ?_
  rotate_left
  · (intro w hSw; obtain ⟨⟨z0, z1, z2, z3, z4, z5⟩, zb⟩ := hSw; go_simp <;> with_reducible rfl)
  try simp only [Act.put, List.setIfInBounds_toArray, List.set_cons_zero, List.set_cons_succ]
  refine lat_take 18 (v := ?_) rfl (by kernel_rfl) (by kernel_rfl) (by kernel_rfl) (by kernel_rfl) (fun _ _ _ h => h) (by rfl) ?_ (by assumption) ?_
  rotate_left
  · (intro w hSw; obtain ⟨⟨z0, z1, z2, z3, z4, z5⟩, zb⟩ := hSw; go_simp <;> with_reducible rfl)
  try simp only [Act.put, List.setIfInBounds_toArray, List.set_cons_zero, List.set_cons_succ]
  refine lat_take 19 (v := ?_) rfl (by kernel_rfl) (by kernel_rfl) (by kernel_rfl) (by kernel_rfl) (fun _ _ _ h => h) (by rfl) ?_ (by assumption) ?_
  rotate_left
  · (intro w hSw; obtain ⟨⟨z0, z1, z2, z3, z4, z5⟩, zb⟩ := hSw; go_simp <;> with_reducible rfl)
  try simp only [Act.put, List.setIfInBounds_toArray, List.set_cons_zero, List.set_cons_succ]
  refine lat_take 20 (v := ?_) rfl (by kernel_rfl) (by kernel_rfl) (by kernel_rfl) (by kernel_rfl) (fun _ _ _ h => h) (by rfl) ?_ (by assumption) ?_
  rotate_left
  · (intro w hSw; obtain ⟨⟨z0, z1, z2, z3, z4, z5⟩, zb⟩ := hSw; go_simp <;> with_reducible rfl)
  try simp only [Act.put, List.setIfInBounds_toArray, List.set_cons_zero, List.set_cons_succ]
  refine lat_take 21 (v := ?_) rfl (by kernel_rfl) (by kernel_rfl) (by kernel_rfl) (by kernel_rfl) (fun _ _ _ h => h) (by rfl) ?_ (by assumption) ?_
  rotate_left
  · (intro w hSw; obtain ⟨⟨z0, z1, z2, z3, z4, z5⟩, zb⟩ := hSw; go_simp <;> with_reducible rfl)
  try simp only [Act.put, List.setIfInBounds_toArray, List.set_cons_zero, List.set_cons_succ]
  refine lat_one 1 rfl (by kernel_rfl) (by decide) (by rfl) (fun K hK => ?_)
  go_simp
  refine Calls.mono (HH.out _) ?_
  rintro e vH ⟨rfl, hbH⟩
  dsimp only
  refine hK.out _ _ (SE.below hHeld hbH) (fun hSH => ?_)
  clear hK hHeld
  try simp only [Act.put, List.setIfInBounds_toArray, List.set_cons_zero, List.set_cons_succ]
  refine lat_two 2 6 rfl rfl (by kernel_rfl) (by decide) (by decide) (by rfl) (by rfl) (fun K hK => ?_) (fun K hK => ?_)
  · go_simp
    try dsimp only
    obtain ⟨R0, hbZ⟩ := head_row _ h hh
    refine hK.out _ _ (SE.below hSH hbZ) (fun hSZ => ?_)
    clear hK hSH
    try simp only [Act.put, List.setIfInBounds_toArray, List.set_cons_zero, List.set_cons_succ]
    refine lat_one 6 rfl (by kernel_rfl) (by decide) (by rfl) (fun K hK => ?_)
    go_simp
    refine Calls.mono (HV1.out _) ?_
    rintro e vA ⟨a1, c1, rfl, R1, n1, hbA⟩
    try dsimp only
    have R0 := R0.below hbA
    refine hK.out _ _ (SE.below hSZ hbA) (fun hSA => ?_)
    clear hK hSZ
    try simp only [Act.put, List.setIfInBounds_toArray, List.set_cons_zero, List.set_cons_succ]
    refine lat_one 11 rfl (by kernel_rfl) (by decide) (by rfl) (fun K hK => ?_)
    go_simp
    refine Calls.mono (HZ.out _) ?_
    rintro e vB ⟨rfl, hw⟩
    subst vB
    try dsimp only
    refine hK.out _ _ hSA (fun hSB => ?_)
    clear hK hSA
    try simp only [Act.put, List.setIfInBounds_toArray, List.set_cons_zero, List.set_cons_succ]
    refine lat_one 12 rfl (by kernel_rfl) (by decide) (by rfl) (fun K hK => ?_)
    go_simp
    refine Calls.mono (HV2.out _) ?_
    rintro e vC ⟨a2, c2, rfl, R2, n2, hbC⟩
    try dsimp only
    have R0 := R0.below hbC
    have R1 := R1.below hbC
    refine hK.out _ _ (SE.below hSB hbC) (fun hSC => ?_)
    clear hK hSB
    try simp only [Act.put, List.setIfInBounds_toArray, List.set_cons_zero, List.set_cons_succ]
    refine lat_one 17 rfl (by kernel_rfl) (by decide) (by rfl) (fun K hK => ?_)
    go_simp
    refine Calls.mono (HT1.out _) ?_
    rintro e vD ⟨a3, c3, rfl, R3, n3, hbD⟩
    try dsimp only
    have R0 := R0.below hbD
    have R1 := R1.below hbD
    have R2 := R2.below hbD
    refine hK.out _ _ (SE.below hSC hbD) (fun hSD => ?_)
    clear hK hSC
    try simp only [Act.put, List.setIfInBounds_toArray, List.set_cons_zero, List.set_cons_succ]
    refine lat_one 22 rfl (by kernel_rfl) (by decide) (by rfl) (fun K hK => ?_)
    go_simp
    refine Calls.mono (HT2.out _) ?_
    rintro e vE ⟨a4, c4, rfl, R4, n4, hbE⟩
    try dsimp only
    have R0 := R0.below hbE
    have R1 := R1.below hbE
    have R2 := R2.below hbE
    have R3 := R3.below hbE
    refine hK.out _ _ (SE.below hSD hbE) (fun hSE => ?_)
    clear hK hSD
    try simp only [Act.put, List.setIfInBounds_toArray, List.set_cons_zero, List.set_cons_succ]
    refine lat_one 23 rfl (by kernel_rfl) (by decide) (by rfl) (fun K hK => ?_)
    go_simp
    try dsimp only
    have HPC := pc_five _ R0 R1 R2 R3 R4 n1 n2 n3 n4
    refine hK.out _ _ (SE.below hSE (below_box _)) (fun hSY => ?_)
    clear hK hSE R0 R1 R2 R3 R4
    try simp only [Act.put, List.setIfInBounds_toArray, List.set_cons_zero, List.set_cons_succ]
    refine lat_one 24 rfl (by kernel_rfl) (by decide) (by rfl) (fun K hK => ?_)
    go_simp
    refine Calls.mono (join_five HPC (HFL.out _ _ _ _ _ _ _ _ _ _) HEL.out) ?_
    rintro e vX ⟨v, rfl, hown, hbX⟩
    try dsimp only
    have hOW := owns_le hown hSY.2.size
    refine hK.out _ _ (SE.below hSY hbX) (fun hSX => ?_)
    clear hK hSY hown HPC
    try simp only [Act.put, List.setIfInBounds_toArray, List.set_cons_zero, List.set_cons_succ]
    refine lat_take 25 (v := ?_) rfl (by kernel_rfl) (by kernel_rfl) (by kernel_rfl) (by kernel_rfl) (fun _ _ _ h => h) (by rfl) ?_ (by assumption) ?_
    rotate_left
    · (intro w hSw; obtain ⟨⟨z0, z1, z2, z3, z4, z5⟩, zb⟩ := hSw; go_simp <;> with_reducible rfl)
    try simp only [Act.put, List.setIfInBounds_toArray, List.set_cons_zero, List.set_cons_succ]
    refine lat_last 26 rfl (by kernel_rfl) (by decide) (by kernel_rfl) (by rfl) (fun K hK => ?_)
    go_simp
    refine hK.out _ _ ?_
    clear hK
    try simp only [Act.put, List.setIfInBounds_toArray, List.set_cons_zero, List.set_cons_succ]
    go_wp2_with fail
    go_ret2
    exact ⟨_, rfl, hOW, hSX.2⟩
  · go_simp
    refine Calls.mono (HV1.out _) ?_
    rintro e vA ⟨a1, c1, rfl, R1, n1, hbA⟩
    try dsimp only
    refine hK.out _ _ (SE.below hSH hbA) (fun hSA => ?_)
    clear hK hSH
    try simp only [Act.put, List.setIfInBounds_toArray, List.set_cons_zero, List.set_cons_succ]
    refine lat_two 2 11 rfl rfl (by kernel_rfl) (by decide) (by decide) (by rfl) (by rfl) (fun K hK => ?_) (fun K hK => ?_)
    · go_simp
      try dsimp only
      obtain ⟨R0, hbZ⟩ := head_row _ h hh
      have R1 := R1.below hbZ
      refine hK.out _ _ (SE.below hSA hbZ) (fun hSZ => ?_)
      clear hK hSA
      try simp only [Act.put, List.setIfInBounds_toArray, List.set_cons_zero, List.set_cons_succ]
      refine lat_one 11 rfl (by kernel_rfl) (by decide) (by rfl) (fun K hK => ?_)
      go_simp
      refine Calls.mono (HZ.out _) ?_
      rintro e vB ⟨rfl, hw⟩
      subst vB
      try dsimp only
      refine hK.out _ _ hSZ (fun hSB => ?_)
      clear hK hSZ
      try simp only [Act.put, List.setIfInBounds_toArray, List.set_cons_zero, List.set_cons_succ]
      refine lat_one 12 rfl (by kernel_rfl) (by decide) (by rfl) (fun K hK => ?_)
      go_simp
      refine Calls.mono (HV2.out _) ?_
      rintro e vC ⟨a2, c2, rfl, R2, n2, hbC⟩
      try dsimp only
      have R1 := R1.below hbC
      have R0 := R0.below hbC
      refine hK.out _ _ (SE.below hSB hbC) (fun hSC => ?_)
      clear hK hSB
      try simp only [Act.put, List.setIfInBounds_toArray, List.set_cons_zero, List.set_cons_succ]
      refine lat_one 17 rfl (by kernel_rfl) (by decide) (by rfl) (fun K hK => ?_)
      go_simp
      refine Calls.mono (HT1.out _) ?_
      rintro e vD ⟨a3, c3, rfl, R3, n3, hbD⟩
      try dsimp only
      have R1 := R1.below hbD
      have R0 := R0.below hbD
      have R2 := R2.below hbD
      refine hK.out _ _ (SE.below hSC hbD) (fun hSD => ?_)
      clear hK hSC
      try simp only [Act.put, List.setIfInBounds_toArray, List.set_cons_zero, List.set_cons_succ]
      refine lat_one 22 rfl (by kernel_rfl) (by decide) (by rfl) (fun K hK => ?_)
      go_simp
      refine Calls.mono (HT2.out _) ?_
      rintro e vE ⟨a4, c4, rfl, R4, n4, hbE⟩
      try dsimp only
      have R1 := R1.below hbE
      have R0 := R0.below hbE
      have R2 := R2.below hbE
      have R3 := R3.below hbE
      refine hK.out _ _ (SE.below hSD hbE) (fun hSE => ?_)
      clear hK hSD
      try simp only [Act.put, List.setIfInBounds_toArray, List.set_cons_zero, List.set_cons_succ]
      refine lat_one 23 rfl (by kernel_rfl) (by decide) (by rfl) (fun K hK => ?_)
      go_simp
      try dsimp only
      have HPC := pc_five _ R0 R1 R2 R3 R4 n1 n2 n3 n4
      refine hK.out _ _ (SE.below hSE (below_box _)) (fun hSY => ?_)
      clear hK hSE R0 R1 R2 R3 R4
      try simp only [Act.put, List.setIfInBounds_toArray, List.set_cons_zero, List.set_cons_succ]
      refine lat_one 24 rfl (by kernel_rfl) (by decide) (by rfl) (fun K hK => ?_)
      go_simp
      refine Calls.mono (join_five HPC (HFL.out _ _ _ _ _ _ _ _ _ _) HEL.out) ?_
      rintro e vX ⟨v, rfl, hown, hbX⟩
      try dsimp only
      have hOW := owns_le hown hSY.2.size
      refine hK.out _ _ (SE.below hSY hbX) (fun hSX => ?_)
      clear hK hSY hown HPC
      try simp only [Act.put, List.setIfInBounds_toArray, List.set_cons_zero, List.set_cons_succ]
      refine lat_take 25 (v := ?_) rfl (by kernel_rfl) (by kernel_rfl) (by kernel_rfl) (by kernel_rfl) (fun _ _ _ h => h) (by rfl) ?_ (by assumption) ?_
      rotate_left
      · (intro w hSw; obtain ⟨⟨z0, z1, z2, z3, z4, z5⟩, zb⟩ := hSw; go_simp <;> with_reducible rfl)
      try simp only [Act.put, List.setIfInBounds_toArray, List.set_cons_zero, List.set_cons_succ]
      refine lat_last 26 rfl (by kernel_rfl) (by decide) (by kernel_rfl) (by rfl) (fun K hK => ?_)
      go_simp
      refine hK.out _ _ ?_
      clear hK
      try simp only [Act.put, List.setIfInBounds_toArray, List.set_cons_zero, List.set_cons_succ]
      go_wp2_with fail
      go_ret2
      exact ⟨_, rfl, hOW, hSX.2⟩
    · go_simp
      refine Calls.mono (HZ.out _) ?_
      rintro e vB ⟨rfl, hw⟩
      subst vB
      try dsimp only
      refine hK.out _ _ hSA (fun hSB => ?_)
      clear hK hSA
      try simp only [Act.put, List.setIfInBounds_toArray, List.set_cons_zero, List.set_cons_succ]
      refine lat_two 2 12 rfl rfl (by kernel_rfl) (by decide) (by decide) (by rfl) (by rfl) (fun K hK => ?_) (fun K hK => ?_)
      · go_simp
        try dsimp only
        obtain ⟨R0, hbZ⟩ := head_row _ h hh
        have R1 := R1.below hbZ
        refine hK.out _ _ (SE.below hSB hbZ) (fun hSZ => ?_)
        clear hK hSB
        try simp only [Act.put, List.setIfInBounds_toArray, List.set_cons_zero, List.set_cons_succ]
        refine lat_one 12 rfl (by kernel_rfl) (by decide) (by rfl) (fun K hK => ?_)
        go_simp
        refine Calls.mono (HV2.out _) ?_
        rintro e vC ⟨a2, c2, rfl, R2, n2, hbC⟩
        try dsimp only
        have R1 := R1.below hbC
        have R0 := R0.below hbC
        refine hK.out _ _ (SE.below hSZ hbC) (fun hSC => ?_)
        clear hK hSZ
        try simp only [Act.put, List.setIfInBounds_toArray, List.set_cons_zero, List.set_cons_succ]
        refine lat_one 17 rfl (by kernel_rfl) (by decide) (by rfl) (fun K hK => ?_)
        go_simp
        refine Calls.mono (HT1.out _) ?_
        rintro e vD ⟨a3, c3, rfl, R3, n3, hbD⟩
        try dsimp only
        have R1 := R1.below hbD
        have R0 := R0.below hbD
        have R2 := R2.below hbD
        refine hK.out _ _ (SE.below hSC hbD) (fun hSD => ?_)
        clear hK hSC
        try simp only [Act.put, List.setIfInBounds_toArray, List.set_cons_zero, List.set_cons_succ]
        refine lat_one 22 rfl (by kernel_rfl) (by decide) (by rfl) (fun K hK => ?_)
        go_simp
        refine Calls.mono (HT2.out _) ?_
        rintro e vE ⟨a4, c4, rfl, R4, n4, hbE⟩
        try dsimp only
        have R1 := R1.below hbE
        have R0 := R0.below hbE
        have R2 := R2.below hbE
        have R3 := R3.below hbE
        refine hK.out _ _ (SE.below hSD hbE) (fun hSE => ?_)
        clear hK hSD
        try simp only [Act.put, List.setIfInBounds_toArray, List.set_cons_zero, List.set_cons_succ]
        refine lat_one 23 rfl (by kernel_rfl) (by decide) (by rfl) (fun K hK => ?_)
        go_simp
        try dsimp only
        have HPC := pc_five _ R0 R1 R2 R3 R4 n1 n2 n3 n4
        refine hK.out _ _ (SE.below hSE (below_box _)) (fun hSY => ?_)
        clear hK hSE R0 R1 R2 R3 R4
        try simp only [Act.put, List.setIfInBounds_toArray, List.set_cons_zero, List.set_cons_succ]
        refine lat_one 24 rfl (by kernel_rfl) (by decide) (by rfl) (fun K hK => ?_)
        go_simp
        refine Calls.mono (join_five HPC (HFL.out _ _ _ _ _ _ _ _ _ _) HEL.out) ?_
        rintro e vX ⟨v, rfl, hown, hbX⟩
        try dsimp only
        have hOW := owns_le hown hSY.2.size
        refine hK.out _ _ (SE.below hSY hbX) (fun hSX => ?_)
        clear hK hSY hown HPC
        try simp only [Act.put, List.setIfInBounds_toArray, List.set_cons_zero, List.set_cons_succ]
        refine lat_take 25 (v := ?_) rfl (by kernel_rfl) (by kernel_rfl) (by kernel_rfl) (by kernel_rfl) (fun _ _ _ h => h) (by rfl) ?_ (by assumption) ?_
        rotate_left
        · (intro w hSw; obtain ⟨⟨z0, z1, z2, z3, z4, z5⟩, zb⟩ := hSw; go_simp <;> with_reducible rfl)
        try simp only [Act.put, List.setIfInBounds_toArray, List.set_cons_zero, List.set_cons_succ]
        refine lat_last 26 rfl (by kernel_rfl) (by decide) (by kernel_rfl) (by rfl) (fun K hK => ?_)
        go_simp
        refine hK.out _ _ ?_
        clear hK
        try simp only [Act.put, List.setIfInBounds_toArray, List.set_cons_zero, List.set_cons_succ]
        go_wp2_with fail
        go_ret2
        exact ⟨_, rfl, hOW, hSX.2⟩
      · go_simp
        refine Calls.mono (HV2.out _) ?_
        rintro e vC ⟨a2, c2, rfl, R2, n2, hbC⟩
        try dsimp only
        have R1 := R1.below hbC
        refine hK.out _ _ (SE.below hSB hbC) (fun hSC => ?_)
        clear hK hSB
        try simp only [Act.put, List.setIfInBounds_toArray, List.set_cons_zero, List.set_cons_succ]
        refine lat_two 2 17 rfl rfl (by kernel_rfl) (by decide) (by decide) (by rfl) (by rfl) (fun K hK => ?_) (fun K hK => ?_)
        · go_simp
          try dsimp only
          obtain ⟨R0, hbZ⟩ := head_row _ h hh
          have R1 := R1.below hbZ
          have R2 := R2.below hbZ
          refine hK.out _ _ (SE.below hSC hbZ) (fun hSZ => ?_)
          clear hK hSC
          try simp only [Act.put, List.setIfInBounds_toArray, List.set_cons_zero, List.set_cons_succ]
          refine lat_one 17 rfl (by kernel_rfl) (by decide) (by rfl) (fun K hK => ?_)
          go_simp
          refine Calls.mono (HT1.out _) ?_
          rintro e vD ⟨a3, c3, rfl, R3, n3, hbD⟩
          try dsimp only
          have R1 := R1.below hbD
          have R2 := R2.below hbD
          have R0 := R0.below hbD
          refine hK.out _ _ (SE.below hSZ hbD) (fun hSD => ?_)
          clear hK hSZ
          try simp only [Act.put, List.setIfInBounds_toArray, List.set_cons_zero, List.set_cons_succ]
          refine lat_one 22 rfl (by kernel_rfl) (by decide) (by rfl) (fun K hK => ?_)
          go_simp
          refine Calls.mono (HT2.out _) ?_
          rintro e vE ⟨a4, c4, rfl, R4, n4, hbE⟩
          try dsimp only
          have R1 := R1.below hbE
          have R2 := R2.below hbE
          have R0 := R0.below hbE
          have R3 := R3.below hbE
          refine hK.out _ _ (SE.below hSD hbE) (fun hSE => ?_)
          clear hK hSD
          try simp only [Act.put, List.setIfInBounds_toArray, List.set_cons_zero, List.set_cons_succ]
          refine lat_one 23 rfl (by kernel_rfl) (by decide) (by rfl) (fun K hK => ?_)
          go_simp
          try dsimp only
          have HPC := pc_five _ R0 R1 R2 R3 R4 n1 n2 n3 n4
          refine hK.out _ _ (SE.below hSE (below_box _)) (fun hSY => ?_)
          clear hK hSE R0 R1 R2 R3 R4
          try simp only [Act.put, List.setIfInBounds_toArray, List.set_cons_zero, List.set_cons_succ]
          refine lat_one 24 rfl (by kernel_rfl) (by decide) (by rfl) (fun K hK => ?_)
          go_simp
          refine Calls.mono (join_five HPC (HFL.out _ _ _ _ _ _ _ _ _ _) HEL.out) ?_
          rintro e vX ⟨v, rfl, hown, hbX⟩
          try dsimp only
          have hOW := owns_le hown hSY.2.size
          refine hK.out _ _ (SE.below hSY hbX) (fun hSX => ?_)
          clear hK hSY hown HPC
          try simp only [Act.put, List.setIfInBounds_toArray, List.set_cons_zero, List.set_cons_succ]
          refine lat_take 25 (v := ?_) rfl (by kernel_rfl) (by kernel_rfl) (by kernel_rfl) (by kernel_rfl) (fun _ _ _ h => h) (by rfl) ?_ (by assumption) ?_
          rotate_left
          · (intro w hSw; obtain ⟨⟨z0, z1, z2, z3, z4, z5⟩, zb⟩ := hSw; go_simp <;> with_reducible rfl)
          try simp only [Act.put, List.setIfInBounds_toArray, List.set_cons_zero, List.set_cons_succ]
          refine lat_last 26 rfl (by kernel_rfl) (by decide) (by kernel_rfl) (by rfl) (fun K hK => ?_)
          go_simp
          refine hK.out _ _ ?_
          clear hK
          try simp only [Act.put, List.setIfInBounds_toArray, List.set_cons_zero, List.set_cons_succ]
          go_wp2_with fail
          go_ret2
          exact ⟨_, rfl, hOW, hSX.2⟩
        · go_simp
          refine Calls.mono (HT1.out _) ?_
          rintro e vD ⟨a3, c3, rfl, R3, n3, hbD⟩
          try dsimp only
          have R1 := R1.below hbD
          have R2 := R2.below hbD
          refine hK.out _ _ (SE.below hSC hbD) (fun hSD => ?_)
          clear hK hSC
          try simp only [Act.put, List.setIfInBounds_toArray, List.set_cons_zero, List.set_cons_succ]
          refine lat_two 2 22 rfl rfl (by kernel_rfl) (by decide) (by decide) (by rfl) (by rfl) (fun K hK => ?_) (fun K hK => ?_)
          · go_simp
            try dsimp only
            obtain ⟨R0, hbZ⟩ := head_row _ h hh
            have R1 := R1.below hbZ
            have R2 := R2.below hbZ
            have R3 := R3.below hbZ
            refine hK.out _ _ (SE.below hSD hbZ) (fun hSZ => ?_)
            clear hK hSD
            try simp only [Act.put, List.setIfInBounds_toArray, List.set_cons_zero, List.set_cons_succ]
            refine lat_one 22 rfl (by kernel_rfl) (by decide) (by rfl) (fun K hK => ?_)
            go_simp
            refine Calls.mono (HT2.out _) ?_
            rintro e vE ⟨a4, c4, rfl, R4, n4, hbE⟩
            try dsimp only
            have R1 := R1.below hbE
            have R2 := R2.below hbE
            have R3 := R3.below hbE
            have R0 := R0.below hbE
            refine hK.out _ _ (SE.below hSZ hbE) (fun hSE => ?_)
            clear hK hSZ
            try simp only [Act.put, List.setIfInBounds_toArray, List.set_cons_zero, List.set_cons_succ]
            refine lat_one 23 rfl (by kernel_rfl) (by decide) (by rfl) (fun K hK => ?_)
            go_simp
            try dsimp only
            have HPC := pc_five _ R0 R1 R2 R3 R4 n1 n2 n3 n4
            refine hK.out _ _ (SE.below hSE (below_box _)) (fun hSY => ?_)
            clear hK hSE R0 R1 R2 R3 R4
            try simp only [Act.put, List.setIfInBounds_toArray, List.set_cons_zero, List.set_cons_succ]
            refine lat_one 24 rfl (by kernel_rfl) (by decide) (by rfl) (fun K hK => ?_)
            go_simp
            refine Calls.mono (join_five HPC (HFL.out _ _ _ _ _ _ _ _ _ _) HEL.out) ?_
            rintro e vX ⟨v, rfl, hown, hbX⟩
            try dsimp only
            have hOW := owns_le hown hSY.2.size
            refine hK.out _ _ (SE.below hSY hbX) (fun hSX => ?_)
            clear hK hSY hown HPC
            try simp only [Act.put, List.setIfInBounds_toArray, List.set_cons_zero, List.set_cons_succ]
            refine lat_take 25 (v := ?_) rfl (by kernel_rfl) (by kernel_rfl) (by kernel_rfl) (by kernel_rfl) (fun _ _ _ h => h) (by rfl) ?_ (by assumption) ?_
            rotate_left
            · (intro w hSw; obtain ⟨⟨z0, z1, z2, z3, z4, z5⟩, zb⟩ := hSw; go_simp <;> with_reducible rfl)
            try simp only [Act.put, List.setIfInBounds_toArray, List.set_cons_zero, List.set_cons_succ]
            refine lat_last 26 rfl (by kernel_rfl) (by decide) (by kernel_rfl) (by rfl) (fun K hK => ?_)
            go_simp
            refine hK.out _ _ ?_
            clear hK
            try simp only [Act.put, List.setIfInBounds_toArray, List.set_cons_zero, List.set_cons_succ]
            go_wp2_with fail
            go_ret2
            exact ⟨_, rfl, hOW, hSX.2⟩
          · go_simp
            refine Calls.mono (HT2.out _) ?_
            rintro e vE ⟨a4, c4, rfl, R4, n4, hbE⟩
            try dsimp only
            have R1 := R1.below hbE
            have R2 := R2.below hbE
            have R3 := R3.below hbE
            refine hK.out _ _ (SE.below hSD hbE) (fun hSE => ?_)
            clear hK hSD
            try simp only [Act.put, List.setIfInBounds_toArray, List.set_cons_zero, List.set_cons_succ]
            refine lat_one 2 rfl (by kernel_rfl) (by decide) (by rfl) (fun K hK => ?_)
            go_simp
            try dsimp only
            obtain ⟨R0, hbZ⟩ := head_row _ h hh
            have R1 := R1.below hbZ
            have R2 := R2.below hbZ
            have R3 := R3.below hbZ
            have R4 := R4.below hbZ
            refine hK.out _ _ (SE.below hSE hbZ) (fun hSZ => ?_)
            clear hK hSE
            try simp only [Act.put, List.setIfInBounds_toArray, List.set_cons_zero, List.set_cons_succ]
            refine lat_one 23 rfl (by kernel_rfl) (by decide) (by rfl) (fun K hK => ?_)
            go_simp
            try dsimp only
            have HPC := pc_five _ R0 R1 R2 R3 R4 n1 n2 n3 n4
            rw [World.size_alloc] at HPC
            refine hK.out _ _ (SE.below hSZ (below_box _)) (fun hSY => ?_)
            clear hK hSZ R0 R1 R2 R3 R4
            try simp only [Act.put, List.setIfInBounds_toArray, List.set_cons_zero, List.set_cons_succ]
            refine lat_one 24 rfl (by kernel_rfl) (by decide) (by rfl) (fun K hK => ?_)
            go_simp
            refine Calls.mono (join_five HPC (HFL.out _ _ _ _ _ _ _ _ _ _) HEL.out) ?_
            rintro e vX ⟨v, rfl, hown, hbX⟩
            try dsimp only
            have hOW := owns_le hown hSY.2.size
            refine hK.out _ _ (SE.below hSY hbX) (fun hSX => ?_)
            clear hK hSY hown HPC
            try simp only [Act.put, List.setIfInBounds_toArray, List.set_cons_zero, List.set_cons_succ]
            refine lat_take 25 (v := ?_) rfl (by kernel_rfl) (by kernel_rfl) (by kernel_rfl) (by kernel_rfl) (fun _ _ _ h => h) (by rfl) ?_ (by assumption) ?_
            rotate_left
            · (intro w hSw; obtain ⟨⟨z0, z1, z2, z3, z4, z5⟩, zb⟩ := hSw; go_simp <;> with_reducible rfl)
            try simp only [Act.put, List.setIfInBounds_toArray, List.set_cons_zero, List.set_cons_succ]
            refine lat_last 26 rfl (by kernel_rfl) (by decide) (by kernel_rfl) (by rfl) (fun K hK => ?_)
            go_simp
            refine hK.out _ _ ?_
            clear hK
            try simp only [Act.put, List.setIfInBounds_toArray, List.set_cons_zero, List.set_cons_succ]
            go_wp2_with fail
            go_ret2
            exact ⟨_, rfl, hOW, hSX.2⟩
theorem time_iff (t : Int) : timeB t = true ↔ 0 ≤ t ∧ t ≤ 1125899906842624 := by simp [timeB]
theorem chk_ok {r : Rc} (h : chk r = 0) : 0 ≤ r.t ∧ r.t ≤ 1125899906842624 ∧ 0 ≤ r.o ∧ r.o ≤ 99 ∧ r.k.size ≤ 2000 ∧ r.v.size ≤ 2000 ∧ (r.hk = false → r.k.toList = []) ∧ (r.hv = false → r.v.toList = []) := by
  unfold chk at h
  split at h
  · omega
  · rename_i ho
    split at h
    · omega
    · rename_i hs
      simp only [oddB, timeB] at ho
      grind
theorem headN_lt (r : Rc) : headN r < 256 := by
  unfold headN headB
  split <;> split <;> omega
theorem text_len (there : Bool) (s : ByteArray) : (textL there s).length ≤ 10 + s.size := by
  unfold textL
  split
  · have := (groups_len s.size).2
    simp only [List.length_append, sb_len]
    omega
  · simp
theorem encL_len (r : Rc) (first : Int) (h1 : r.k.size ≤ 2000) (h2 : r.v.size ≤ 2000) : (encL r first).length ≤ 5000 := by
  unfold encL
  have a1 := (groups_len r.o.toNat).2
  have a2 := (groups_len (zig (r.t - first)).toNat).2
  have a3 := text_len r.hk r.k
  have a4 := text_len r.hv r.v
  simp only [List.length_cons, List.length_append]
  omega
theorem encode_any (r : Rc) (first : Int) (w : World) :
    Calls Tryd.prog 103 #[.agg r.cells, .int .i64 first] w fun e w' => ∃ v, e = .returned (.tuple #[v, .int .i64 (encE r first)]) ∧ w'.ownsRow w.heap.size 5 1 v (encR r first).length (cv (encR r first)) ∧ Below w.heap.size w w' := by
  have HC : Hid _ := check_any r
  have HI : Hid _ := isTime_any first
  by_cases hc : chk r = 0
  · rw [hc] at HC
    by_cases ht : timeB first = true
    · rw [ht] at HI
      have hE : encE r first = 0 := by simp [encE, hc, ht]
      have hR : encR r first = encL r first := by simp [encR, hE]
      obtain ⟨t0, t1, o0, o1, k1, v1, _, _⟩ := chk_ok hc
      obtain ⟨f0, f1⟩ := (time_iff first).1 ht
      rw [hE, hR]
      obtain ⟨on, hon⟩ := Int.eq_ofNat_of_zero_le o0
      have hz := zig_bd (r.t - first) (by omega) (by omega)
      obtain ⟨zn, hzn⟩ := Int.eq_ofNat_of_zero_le hz.1
      have HH : Hid _ := head_any r
      have HZ : Hid _ := fun w' => zig_any (r.t - first) w' (by omega) (by omega)
      have HEL : Hid ((encL r first).length ≤ 1000000) := Nat.le_trans (encL_len r first k1 v1) (by omega)
      have HFL : Hid (∀ x c a1 c1 a2 c2 a3 c3 a4 c4, flat [(x, c, [headN r]), (a1, c1, groups on), (a2, c2, groups zn), (a3, c3, textL r.hk r.k), (a4, c4, textL r.hv r.v)] = encL r first) := by
        intro x c a1 c1 a2 c2 a3 c3 a4 c4
        unfold encL
        rw [hon, hzn]
        simp [flat]
      have hb := headN_lt r
      generalize encL r first = L at *
      generalize headN r = h at *
      obtain ⟨hk, k, hv, v, t, o⟩ := r
      simp only at *
      subst hon
      rw [hzn] at HZ
      refine encode_ok hk k hv v t on first w h zn (groups on) (groups zn) (textL hk k) (textL hv v) hb HC HI HH (varint_makes on (by omega)) HZ (varint_makes zn (by omega)) (text_makes hk k k1) (text_makes hv v v1) (by rw [IntKind.wrap_u64]; omega) (by rw [IntKind.wrap_i64]; omega) L HFL HEL
    · have ht' : timeB first = false := by simpa using ht
      rw [ht'] at HI
      have hE : encE r first = 1 := by simp [encE, hc, ht']
      have hR : encR r first = [] := by simp [encR, hE]
      rw [hE, hR]
      obtain ⟨hk, k, hv, v, t, o⟩ := r
      simp only [Rc.cells] at HC ⊢
      clear hE hR hc ht ht'
      go_enter Tryd.func103, Tryd.ntmps103
      go_wp2_with (first
        | (go_at_call 102; refine (HC.out _).mono ?_; rintro e w1 ⟨rfl, hb1⟩)
        | (go_at_call 105; refine (HI.out _).mono ?_; rintro e w2 ⟨rfl, hw⟩; subst w2))
      go_ret2
      exact ⟨_, rfl, World.ownsRow_nil _ _ _ _, (below_box _).trans (hb1.mono (by simp))⟩
  · have hE : encE r first = chk r := by simp [encE, hc]
    have hR : encR r first = [] := by simp [encR, hE, hc]
    rw [hE, hR]
    have hne : (chk r != 0) = true := by simpa using hc
    obtain ⟨hk, k, hv, v, t, o⟩ := r
    generalize chk ⟨hk, k, hv, v, t, o⟩ = c at *
    simp only [Rc.cells] at HC ⊢
    clear hE hR hc
    go_enter Tryd.func103, Tryd.ntmps103
    go_wp2_with (first
      | (go_at_call 102; refine (HC.out _).mono ?_; rintro e w1 ⟨rfl, hb1⟩)
      | (go_at_call 105; refine (HI.out _).mono ?_; rintro e w2 ⟨rfl, hw⟩; subst w2))
    go_ret2
    exact ⟨_, rfl, World.ownsRow_nil _ _ _ _, (below_box _).trans (hb1.mono (by simp))⟩
end Go.Proofs.YtaooidckmepdeaaDoor
namespace Go.Proofs.YtaooidckmepdeaaDoor
set_option linter.unusedSimpArgs false
set_option linter.unusedVariables false
open Go.RowKit
def rz : Rc := ⟨false, ⟨#[]⟩, false, ⟨#[]⟩, 0, 0⟩
/-- May it be looked at? -/
def gate (l : List Nat) (first : Int) : Bool := timeB first && decide (0 < l.length) && decide (l.getD 0 0 ≤ 3)
def hkOf (l : List Nat) : Bool := l.getD 0 0 % 2 == 1
def hvOf (l : List Nat) : Bool := l.getD 0 0 / 2 == 1
/-- What is left behind the first byte, Off, the time, the key, the value. -/
def p0 (l : List Nat) : List Nat := l.drop 1
def p1 (l : List Nat) : List Nat := (p0 l).drop (numN (p0 l))
def p2 (l : List Nat) : List Nat := (p1 l).drop (numN (p1 l))
def p3 (l : List Nat) : List Nat := txL (hkOf l) (p2 l)
def p4 (l : List Nat) : List Nat := txL (hvOf l) (p3 l)
def b2 (l : List Nat) : Bool := numN (p0 l) == 0 || numN (p1 l) == 0
def badAt (l : List Nat) : Bool := txB (hvOf l) (p3 l) (txB (hkOf l) (p2 l) (b2 l))
def rcOf (l : List Nat) (first : Int) : Rc := ⟨hkOf l, strN (txV (hkOf l) (p2 l)), hvOf l, strN (txV (hvOf l) (p3 l)), wrap64 (first + zag (numV (p1 l))), wrap64 (numV (p0 l))⟩
def okD (l : List Nat) (first : Int) : Bool := gate l first && !(badAt l) && (chk (rcOf l first) == 0)
def decR (l : List Nat) (first : Int) : Rc := if okD l first = true then rcOf l first else rz
def decN (l : List Nat) (first : Int) : Nat := if okD l first = true then l.length - (p4 l).length else 0
def decE (l : List Nat) (first : Int) : Int := if okD l first = true then 0 else 10
theorem uv_ext (l t : List Nat) : ∀ (i v : Nat), (uv l i v).2 ≠ 0 → uv (l ++ t) i v = uv l i v := by
  induction l with
  | nil => intro i v h; exact absurd rfl h
  | cons c r ih =>
    intro i v h
    rw [List.cons_append, uv_cons, uv_cons] at *
    split
    · rfl
    · rename_i h9
      rw [if_neg h9] at h
      split
      · rename_i h128
        rw [if_pos h128] at h
        exact ih _ _ h
      · rfl
theorem num_ext {l : List Nat} (t : List Nat) (h : numN l ≠ 0) : numV (l ++ t) = numV l ∧ numN (l ++ t) = numN l := by
  unfold numV numN
  rw [uv_ext l t 0 0 h]
  exact ⟨rfl, rfl⟩
theorem drop_ext {l : List Nat} (t : List Nat) {n : Nat} (h : n ≤ l.length) : (l ++ t).drop n = l.drop n ++ t := List.drop_append_of_le_length h
theorem tx_ext {there : Bool} {l : List Nat} (t : List Nat) {bad : Bool} (h : txB there l bad = false) : txV there (l ++ t) = txV there l ∧ txL there (l ++ t) = txL there l ++ t ∧ txB there (l ++ t) bad = false ∧ bad = false := by
  cases there
  · simp only [txV, txL, txB, Bool.false_eq_true, if_false] at *
    exact ⟨trivial, trivial, h, h⟩
  · simp only [txB, if_true, Bool.or_eq_false_iff] at h
    obtain ⟨⟨h1, h2⟩, h3⟩ := h
    have hn : numN l ≠ 0 := by simpa using h2
    obtain ⟨e1, e2⟩ := num_ext t hn
    have hle := numN_le l
    have hO : ¬ (l.drop (numN l)).length < numV l := of_decide_eq_false h3
    have hO2 : txO (l ++ t) = false := by
      unfold txO
      rw [e1, e2, drop_ext t hle]
      apply decide_eq_false
      simp only [List.length_append]
      omega
    simp only [txV, txL, txB, if_true, h3, hO2, e1, e2, drop_ext t hle, h1, Bool.false_or, Bool.or_false]
    refine ⟨?_, ?_, by simpa using h2, trivial⟩
    · exact List.take_append_of_le_length (by omega)
    · exact drop_ext t (by omega)
theorem txL_len (there : Bool) (l : List Nat) : (txL there l).length ≤ l.length := by
  unfold txL
  split
  · split <;> simp <;> omega
  · exact Nat.le_refl _
theorem p4_len (l : List Nat) : (p4 l).length ≤ l.length - 1 := by
  unfold p4
  refine Nat.le_trans (txL_len _ _) ?_
  unfold p3
  refine Nat.le_trans (txL_len _ _) ?_
  simp only [p2, p1, p0, List.length_drop]
  omega
theorem dec_ext {l : List Nat} (t : List Nat) {first : Int} (h : okD l first = true) : okD (l ++ t) first = true ∧ rcOf (l ++ t) first = rcOf l first ∧ p4 (l ++ t) = p4 l ++ t := by
  unfold okD at h ⊢
  simp only [Bool.and_eq_true, Bool.not_eq_true', gate, decide_eq_true_eq] at h ⊢
  obtain ⟨⟨⟨⟨h1, h2⟩, h3⟩, h4⟩, h5⟩ := h
  have g0 : (l ++ t).getD 0 0 = l.getD 0 0 := by
    cases l with
    | nil => simp at h2
    | cons c r => rfl
  have ek : hkOf (l ++ t) = hkOf l := by unfold hkOf; rw [g0]
  have ev : hvOf (l ++ t) = hvOf l := by unfold hvOf; rw [g0]
  have e0 : p0 (l ++ t) = p0 l ++ t := drop_ext t (by omega)
  unfold badAt at h4 ⊢
  obtain ⟨_, _, _, k3⟩ := tx_ext t h4
  obtain ⟨_, _, _, k2⟩ := tx_ext t k3
  simp only [b2, Bool.or_eq_false_iff] at k2
  have n0 : numN (p0 l) ≠ 0 := by simpa using k2.1
  have n1 : numN (p1 l) ≠ 0 := by simpa using k2.2
  obtain ⟨a1, a2⟩ := num_ext t n0
  have e1 : p1 (l ++ t) = p1 l ++ t := by
    unfold p1
    rw [e0, a2, drop_ext t (numN_le _)]
  obtain ⟨a3, a4⟩ := num_ext t n1
  have e2 : p2 (l ++ t) = p2 l ++ t := by
    unfold p2
    rw [e1, a4, drop_ext t (numN_le _)]
  have eb : b2 (l ++ t) = b2 l := by
    unfold b2
    rw [e0, e1, a2, a4]
  obtain ⟨v3, l3, c3, _⟩ := tx_ext t k3
  have e3 : p3 (l ++ t) = p3 l ++ t := by
    unfold p3
    rw [e2, ek, l3]
  obtain ⟨v4, l4, c4, _⟩ := tx_ext t h4
  have e4 : p4 (l ++ t) = p4 l ++ t := by
    unfold p4
    rw [e3, ev, l4]
  have er : rcOf (l ++ t) first = rcOf l first := by
    unfold rcOf
    rw [ek, ev, e0, e1, e2, e3, v3, v4, a1, a3]
  refine ⟨⟨⟨⟨⟨h1, by simp; omega⟩, by rw [g0]; exact h3⟩, ?_⟩, by rw [er]; exact h5⟩, er, e4⟩
  rw [ek, ev, e2, e3, eb]
  rw [k3] at c4
  rw [c3]
  exact c4
end Go.Proofs.YtaooidckmepdeaaDoor
namespace Go.Proofs.YtaooidckmepdeaaDoor
set_option linter.unusedSimpArgs false
set_option linter.unusedVariables false
open Go.RowKit
theorem uv_vr (f i V v : Nat) (t : List Nat) (hi : i + f = 9) (hV : V < 2 ^ (64 - 7 * i)) (h0 : 0 < i → V ≠ 0) : uv (vr f V ++ t) i v = (v + V * 128 ^ i, i + (vr f V).length) := by
  induction f generalizing i V v with
  | zero =>
    have e9 : i = 9 := by omega
    subst e9
    have hV2 : V < 2 := by simpa using hV
    have := h0 (by omega)
    obtain rfl : V = 1 := by omega
    simp [vr, uv_cons]
  | succ f ih =>
    simp only [vr]
    split
    · rename_i h128
      simp only [List.cons_append, List.nil_append, uv_cons]
      rw [if_neg (by omega), if_neg (by omega), if_neg (by rintro ⟨a, b⟩; exact h0 b a), Nat.mod_eq_of_lt h128]
      simp
    · rename_i h128
      have hV2 : V / 128 < 2 ^ (64 - 7 * (i + 1)) := by
        have e : 64 - 7 * i = (64 - 7 * (i + 1)) + 7 := by omega
        rw [e, Nat.pow_add] at hV
        omega
      simp only [List.cons_append, uv_cons]
      rw [if_neg (by omega), if_pos (by omega), ih (i + 1) (V / 128) _ (by omega) hV2 (by intro _; omega)]
      have e1 : (V % 128 + 128) % 128 = V % 128 := by omega
      rw [e1]
      have e2 : V * 128 ^ i = V % 128 * 128 ^ i + V / 128 * 128 ^ (i + 1) := by
        rw [Nat.pow_succ, ← Nat.mul_assoc, Nat.mul_right_comm (V / 128), ← Nat.add_mul]
        congr 1
        omega
      simp only [List.length_cons, Prod.mk.injEq]
      omega
theorem uv_groups (V : Nat) (t : List Nat) (h : V ≤ 18446744073709551615) : uv (groups V ++ t) 0 0 = (V, (groups V).length) := by
  have := uv_vr 9 0 V 0 t (by omega) (by simp; omega) (by omega)
  simpa [groups] using this
theorem num_groups (V : Nat) (t : List Nat) (h : V ≤ 18446744073709551615) : numV (groups V ++ t) = V ∧ numN (groups V ++ t) = (groups V).length ∧ (groups V ++ t).drop (numN (groups V ++ t)) = t := by
  have e := uv_groups V t h
  have h2 : numN (groups V ++ t) = (groups V).length := by unfold numN; rw [e]
  exact ⟨by unfold numV; rw [e], h2, by rw [h2, List.drop_left]⟩
theorem strN_sb (s : ByteArray) : strN (sb s) = s := by
  have h : (strN (sb s)).data.toList = s.data.toList := by
    unfold strN sb
    rw [strOfNums_data, List.map_map, List.map_map]
    conv => rhs; rw [← List.map_id s.data.toList]
    apply List.map_congr_left
    intro a _
    simp
  cases s with
  | mk d =>
    cases h2 : strN (sb ⟨d⟩) with
    | mk d2 =>
      rw [h2] at h
      simp only at h
      rw [Array.toList_inj.1 h]
theorem tx_text (there : Bool) (s : ByteArray) (t : List Nat) (bad : Bool) (hs : s.size ≤ 2000) : txV there (textL there s ++ t) = (if there then sb s else []) ∧ txL there (textL there s ++ t) = t ∧ txB there (textL there s ++ t) bad = bad := by
  cases there
  · simp [txV, txL, txB, textL]
  · simp only [textL, if_true, List.append_assoc]
    obtain ⟨e1, e2, e3⟩ := num_groups s.size (sb s ++ t) (by omega)
    have hO : txO (groups s.size ++ (sb s ++ t)) = false := by
      unfold txO
      rw [e1, e3]
      apply decide_eq_false
      simp only [List.length_append, sb_len]
      omega
    have hne : (numN (groups s.size ++ (sb s ++ t)) == 0) = false := by
      rw [e2, beq_eq_false_iff_ne]
      have := (groups_len s.size).1
      omega
    simp only [txV, txL, txB, if_true, hO, hne, e1, e3, Bool.or_false]
    refine ⟨?_, ?_, trivial⟩
    · rw [← sb_len, List.take_left]; rfl
    · rw [← sb_len, List.drop_left]; rfl
theorem empty_of {s : ByteArray} (h : s.toList = []) : s = ⟨#[]⟩ := by
  rw [ByteArray.toList_eq] at h
  cases s with
  | mk d => rw [show d = #[] from Array.toList_inj.1 h]
theorem head_of (r : Rc) : headN r ≤ 3 ∧ (headN r % 2 == 1) = r.hk ∧ (headN r / 2 == 1) = r.hv := by
  unfold headN headB
  cases r.hk <;> cases r.hv <;> decide
/-- The record with its time moved. -/
def mv (r : Rc) (t : Int) : Rc := ⟨r.hk, r.k, r.hv, r.v, t, r.o⟩
theorem chk_mv {r : Rc} (h : chk r = 0) (t : Int) : chk (mv r t) = if timeB t = true then 0 else 1 := by
  obtain ⟨t0, t1, o0, o1, k1, v1, hk, hv⟩ := chk_ok h
  unfold chk oddB mv
  simp only
  by_cases ht : timeB t = true
  · rw [ht]
    grind
  · have : timeB t = false := by simpa using ht
    rw [this]
    simp
theorem dec_enc (r : Rc) (first other : Int) (t : List Nat) (hc : chk r = 0) (hf : timeB first = true) (ho : timeB other = true) :
    badAt (encL r first ++ t) = false ∧ gate (encL r first ++ t) other = true ∧ p4 (encL r first ++ t) = t ∧ rcOf (encL r first ++ t) other = mv r (r.t - first + other) := by
  obtain ⟨t0, t1, o0, o1, k1, v1, hk, hv⟩ := chk_ok hc
  obtain ⟨f0, f1⟩ := (time_iff first).1 hf
  obtain ⟨q0, q1⟩ := (time_iff other).1 ho
  obtain ⟨h3, ek, ev⟩ := head_of r
  have hz := zig_bd (r.t - first) (by omega) (by omega)
  have e0 : p0 (encL r first ++ t) = groups r.o.toNat ++ (groups (zig (r.t - first)).toNat ++ (textL r.hk r.k ++ (textL r.hv r.v ++ t))) := by
    unfold p0 encL
    simp [List.append_assoc]
  have g0 : (encL r first ++ t).getD 0 0 = headN r := rfl
  have hkk : hkOf (encL r first ++ t) = r.hk := by unfold hkOf; rw [g0]; exact ek
  have hvv : hvOf (encL r first ++ t) = r.hv := by unfold hvOf; rw [g0]; exact ev
  obtain ⟨a1, a2, a3⟩ := num_groups r.o.toNat (groups (zig (r.t - first)).toNat ++ (textL r.hk r.k ++ (textL r.hv r.v ++ t))) (by omega)
  have e1 : p1 (encL r first ++ t) = groups (zig (r.t - first)).toNat ++ (textL r.hk r.k ++ (textL r.hv r.v ++ t)) := by
    unfold p1; rw [e0, a3]
  obtain ⟨c1, c2, c3⟩ := num_groups (zig (r.t - first)).toNat (textL r.hk r.k ++ (textL r.hv r.v ++ t)) (by omega)
  have e2 : p2 (encL r first ++ t) = textL r.hk r.k ++ (textL r.hv r.v ++ t) := by
    unfold p2; rw [e1, c3]
  have eb : b2 (encL r first ++ t) = false := by
    unfold b2
    rw [e0, e1, a2, c2]
    have x1 := (groups_len r.o.toNat).1
    have x2 := (groups_len (zig (r.t - first)).toNat).1
    rw [Bool.or_eq_false_iff, beq_eq_false_iff_ne, beq_eq_false_iff_ne]
    omega
  have e3 : p3 (encL r first ++ t) = textL r.hv r.v ++ t := by
    unfold p3; rw [e2, hkk]; exact (tx_text r.hk r.k _ false k1).2.1
  have e4 : p4 (encL r first ++ t) = t := by
    unfold p4; rw [e3, hvv]; exact (tx_text r.hv r.v t false v1).2.1
  refine ⟨?_, ?_, e4, ?_⟩
  · unfold badAt
    rw [eb, e2, e3, hkk, hvv, (tx_text r.hk r.k _ false k1).2.2, (tx_text r.hv r.v t false v1).2.2]
  · unfold gate
    rw [ho, g0]
    simp [encL, h3]
  · unfold rcOf mv
    rw [hkk, hvv, e0, e1, e2, e3, (tx_text r.hk r.k _ false k1).1, (tx_text r.hv r.v t false v1).1, a1, c1]
    have s1 : strN (if r.hk = true then sb r.k else []) = r.k := by
      by_cases h : r.hk = true
      · rw [if_pos h]; exact strN_sb r.k
      · rw [if_neg h, empty_of (hk (by simpa using h))]; rfl
    have s2 : strN (if r.hv = true then sb r.v else []) = r.v := by
      by_cases h : r.hv = true
      · rw [if_pos h]; exact strN_sb r.v
      · rw [if_neg h, empty_of (hv (by simpa using h))]; rfl
    rw [s1, s2, show (((zig (r.t - first)).toNat : Nat) : Int) = zig (r.t - first) by omega, zag_zig, show ((r.o.toNat : Nat) : Int) = r.o by omega]
    have w1 : wrap64 (other + (r.t - first)) = r.t - first + other := by rw [w64 _ (by omega) (by omega)]; omega
    rw [w1, w64 r.o (by omega) (by omega)]
theorem dec_back (r : Rc) (first : Int) (t : List Nat) (hc : chk r = 0) (hf : timeB first = true) : okD (encL r first ++ t) first = true ∧ decR (encL r first ++ t) first = r ∧ decN (encL r first ++ t) first = (encL r first).length ∧ decE (encL r first ++ t) first = 0 := by
  obtain ⟨h1, h2, h3, h4⟩ := dec_enc r first first t hc hf hf
  have e : mv r (r.t - first + first) = r := by
    unfold mv
    rw [show r.t - first + first = r.t by omega]
  rw [e] at h4
  have ok : okD (encL r first ++ t) first = true := by
    unfold okD
    rw [h1, h2, h4, hc]
    rfl
  refine ⟨ok, ?_, ?_, ?_⟩
  · unfold decR; rw [if_pos ok, h4]
  · unfold decN; rw [if_pos ok, h3]; simp
  · unfold decE; rw [if_pos ok]
theorem dec_moved (r : Rc) (first other : Int) (hc : chk r = 0) (hf : timeB first = true) (ho : timeB other = true) :
    (timeB (r.t - first + other) = true → decR (encL r first) other = mv r (r.t - first + other) ∧ decE (encL r first) other = 0) ∧ (timeB (r.t - first + other) = false → decE (encL r first) other = 10) := by
  obtain ⟨h1, h2, h3, h4⟩ := dec_enc r first other [] hc hf ho
  rw [List.append_nil] at h1 h2 h3 h4
  constructor
  · intro ht
    have ok : okD (encL r first) other = true := by
      unfold okD
      rw [h1, h2, h4, chk_mv hc, ht]
      rfl
    exact ⟨by unfold decR; rw [if_pos ok, h4], by unfold decE; rw [if_pos ok]⟩
  · intro ht
    have ok : okD (encL r first) other = false := by
      unfold okD
      rw [h1, h2, h4, chk_mv hc, ht]
      rfl
    unfold decE
    rw [ok]
    rfl
theorem dec_cut (r : Rc) (first : Int) (k : Nat) (hc : chk r = 0) (hf : timeB first = true) (hk : k < (encL r first).length) : okD ((encL r first).take k) first = false := by
  cases h : okD ((encL r first).take k) first with
  | false => rfl
  | true =>
    exfalso
    obtain ⟨h1, h2, h3⟩ := dec_ext ((encL r first).drop k) h
    rw [List.take_append_drop] at h1 h2 h3
    obtain ⟨_, _, e, _⟩ := dec_enc r first first [] hc hf hf
    rw [List.append_nil] at e
    rw [e] at h3
    have := congrArg List.length h3
    simp only [List.length_nil, List.length_append, List.length_drop] at this
    omega
end Go.Proofs.YtaooidckmepdeaaDoor
namespace Go.Proofs.YtaooidckmepdeaaDoor
set_option linter.unusedSimpArgs false
set_option linter.unusedVariables false
open Go.RowKit
theorem setCell_heap {w : World} {g : Nat} {cs : Array Value} {t : TypeId} {fr : Nat × Nat} (h : w.heap[g]? = some (.cells cs t fr)) (i : Nat) (v : Value) : (w.setCell ⟨g, i, none⟩ v).heap[g]? = some (.cells (cs.setIfInBounds i v) t fr) := by
  have hlt : g < w.heap.size := (Array.getElem?_eq_some_iff.1 h).1
  have hv : w.heap[g] = .cells cs t fr := (Array.getElem?_eq_some_iff.1 h).2
  unfold World.setCell
  rw [Array.getElem?_eq_getElem (by simpa using hlt), Array.getElem_modify]
  simp [hv]
structure DS (M R B : Nat) (w0 w : World) (r : Rc) (l : List Nat) (bad : Bool) : Prop where
  box : w.heap[R]? = some (.cells r.cells 87 (0, 0))
  rd : RdS w B M l bad
  bel : Below M w0 w
  mr : M ≤ R
  rb : R < B
theorem DS.cells {M R B : Nat} {w0 w : World} {r : Rc} {l : List Nat} {bad : Bool} (h : DS M R B w0 w r l bad) :
    w.cell? ⟨R, 0, none⟩ = some (.bool r.hk) ∧ w.cell? ⟨R, 1, none⟩ = some (.string r.k) ∧ w.cell? ⟨R, 2, none⟩ = some (.bool r.hv) ∧ w.cell? ⟨R, 3, none⟩ = some (.string r.v) ∧ w.cell? ⟨R, 4, none⟩ = some (.int .i64 r.t) ∧ w.cell? ⟨R, 5, none⟩ = some (.int .i64 r.o) ∧ ∀ i, w.frozen? ⟨R, i, none⟩ = false := by
  have hc : ∀ j, w.cell? ⟨R, j, none⟩ = r.cells[j]? := fun j => cell_of_row _ R j r.cells 87 (0, 0) h.box
  refine ⟨by rw [hc]; rfl, by rw [hc]; rfl, by rw [hc]; rfl, by rw [hc]; rfl, by rw [hc]; rfl, by rw [hc]; rfl, fun i => ?_⟩
  simp [World.frozen?, h.box]
theorem DS.put {M R B : Nat} {w0 w : World} {r : Rc} {l : List Nat} {bad : Bool} (h : DS M R B w0 w r l bad) (i : Nat) (v : Value) (r' : Rc) (he : r.cells.setIfInBounds i v = r'.cells) : DS M R B w0 (w.setCell ⟨R, i, none⟩ v) r' l bad := by
  have hne : ∀ j, (⟨R, i, none⟩ : Addr) ≠ ⟨B, j, none⟩ := fun j e => by
    injection e with e1
    have := h.rb
    omega
  refine ⟨by rw [setCell_heap h.box, he], RdS.turn h.rd ((Below.refl M w).setCell (p := ⟨R, i, none⟩) h.mr v) (fun j => World.cell?_setCell_other _ _ _ _ (hne j)) (fun j => World.frozen?_setCell _ _ _ _), h.bel.setCell (p := ⟨R, i, none⟩) h.mr v, h.mr, h.rb⟩
theorem number_ds {M R B : Nat} {w0 w : World} {r : Rc} {l : List Nat} {bad : Bool} (h : DS M R B w0 w r l bad) :
    Calls Tryd.prog 111 #[.pointer (some ⟨B, 0, none⟩)] w fun e w' => e = .returned (.int .u64 ((numV l : Nat) : Int)) ∧ DS M R B w0 w' r (l.drop (numN l)) (bad || numN l == 0) := by
  have hmr := h.mr
  have hrb := h.rb
  refine (number_any B M l bad w (by omega) h.rd).mono ?_
  rintro e w' ⟨rfl, hr, hb, hz⟩
  exact ⟨rfl, by rw [hb.block R hrb]; exact h.box, hr, h.bel.trans (hb.mono (by omega)), hmr, hrb⟩
theorem rtx_ds {M R B : Nat} {w0 w : World} {r : Rc} {l : List Nat} {bad : Bool} (h : DS M R B w0 w r l bad) (there : Bool) :
    Calls Tryd.prog 113 #[.pointer (some ⟨B, 0, none⟩), .bool there] w fun e w' => e = .returned (.string (strN (txV there l))) ∧ DS M R B w0 w' r (txL there l) (txB there l bad) := by
  have hmr := h.mr
  have hrb := h.rb
  refine (rtx_any there B M l bad w (by omega) h.rd).mono ?_
  rintro e w' ⟨rfl, hr, hb, hz⟩
  exact ⟨rfl, by rw [hb.block R hrb]; exact h.box, hr, h.bel.trans (hb.mono (by omega)), hmr, hrb⟩
theorem Tryd.info87 : (Tryd.prog.info? 87).map (·.size) = some 6 := by kernel_rfl
theorem results_three {fn : Func} {p u u2 : Tmp} {ty : TypeId} (h : fn.results = #[.cell p ty, .tmp u, .tmp u2]) (tmps : Array Value) (P : Program) (w : World) :
    (results fn tmps).run P w =
      ((asAddr (tmps.getD p undef)).run P w).andThen fun a w₁ => ((loadVar ty a).run P w₁).andThen fun v w₂ => .ok (.tuple #[v, tmps.getD u undef, tmps.getD u2 undef]) w₂ := by
  simp only [results, h]
  simp [Sem.run_bind, Result.andThen]
theorem results_rec {fn : Func} {p u u2 : Tmp} (h : fn.results = #[.cell p 87, .tmp u, .tmp u2]) (tmps : Array Value) (w : World) (g : Nat) (r : Rc) (v v2 : Value) (hp : tmps.getD p undef = .pointer (some ⟨g, 0, none⟩)) (hv : tmps.getD u undef = v) (hv2 : tmps.getD u2 undef = v2) (hg : w.heap[g]? = some (.cells r.cells 87 (0, 0))) :
    (results fn tmps).run Tryd.prog w = .ok (.tuple #[.agg r.cells, v, v2]) w := by
  have h2 := run_loadVar_row (P := Tryd.prog) w g 87 87 r.cells (0, 0) _ hg Tryd.underlying87 rfl Tryd.info87
  subst hv
  subst hv2
  rw [results_three h, hp]
  simp [asAddr, h2, Result.andThen]
theorem below_setRow {B : Nat} {a w : World} (h : Below B a w) {g : Nat} (hg : B ≤ g) (cs : Array Value) : Below B a (w.setRow g cs) :=
  ⟨h.os, h.tape, h.output, by simp; exact h.size, fun k hk => (setRow_other w g k cs (by omega)).trans (h.block k hk)⟩
theorem rc_one (r : Rc) : r.cells.all (·.oneCell') = true := by simp [Rc.cells, Value.oneCell']
theorem Tryd.info5s : (Tryd.prog.info? 5).map (·.size) = some 1 := by kernel_rfl
theorem run_slice_from (w : World) (a : Option Addr) (len cap n : Nat) (k : IntKind) (h : n ≤ len) : (Instr.slice 29 (.slice a len cap) (some (.int k (n : Int))) none none).run Tryd.prog w = .ok (.slice (cutA a cap n) (len - n) (cap - n)) w := by
  have hs : (sizeOf 5).run Tryd.prog w = .ok 1 w := by
    obtain ⟨i, hi, e⟩ := Option.map_eq_some_iff.1 Tryd.info5s
    simp [sizeOf, typeInfo, hi, e]
  have h1 : (0 : Int) ≤ (n : Int) ∧ (n : Int) ≤ (len : Int) := by omega
  simp [Instr.slice, run_underlying Tryd.underlying29, Instr.sliceBounds, Instr.sliceBound, asIntOf, h1, hs, cutA]
  intro hh
  omega
end Go.Proofs.YtaooidckmepdeaaDoor
namespace Go.Proofs.YtaooidckmepdeaaDoor
set_option linter.unusedSimpArgs false
set_option linter.unusedVariables false
open Go.RowKit
def okT (q : List Nat) : Bool := !(numN q == 0) && decide (numV q ≤ 2000) && !(txO q)
theorem conv_mid {w : World} {a : Option Addr} {l : List Nat} (cap i n : Nat) (hr : Row w a l) (hl : l.length ≤ cap) (hn : n ≤ l.length - i) (c : Nat) : (convert 29 9 (.slice (cutA a cap i) n c)).run Tryd.prog w = .ok (.string (strN ((l.drop i).take n))) w := by
  have := conv_row c (row_take n (row_cut cap i hr hl))
  rw [show ((l.drop i).take n).length = n by simp; omega] at this
  exact this
end Go.Proofs.YtaooidckmepdeaaDoor
namespace Go.Proofs.YtaooidckmepdeaaDoor
set_option linter.unusedSimpArgs false
set_option linter.unusedVariables false
open Go.RowKit
theorem strN_size (l : List Nat) : (strN l).size = l.length := by
  have h : (strN l).data.toList.length = l.length := by
    unfold strN
    rw [strOfNums_data]
    simp
  rw [← h]
  simp
theorem strN_nil : strN [] = ⟨#[]⟩ := rfl
theorem empty_facts : (strN []).size ≤ 2000 ∧ (strN []).toList = [] := ⟨by decide, by decide +kernel⟩
theorem txB_true (there : Bool) (q : List Nat) : txB there q true = true := by
  unfold txB
  split <;> simp
theorem zag_bd (V : Nat) (h : V ≤ 18446744073709551615) : -9223372036854775808 ≤ zag V ∧ zag V ≤ 9223372036854775807 := by
  unfold zag
  split <;> omega
theorem wrap_in {x : Int} (h0 : -9223372036854775808 ≤ x) (h1 : x ≤ 9224497936761618431) (h : 0 ≤ wrap64 x ∧ wrap64 x ≤ 1125899906842624) : 0 ≤ x ∧ x ≤ 1125899906842624 := by
  unfold wrap64 at h
  omega
theorem wrap_off {V : Nat} (h0 : V ≤ 18446744073709551615) (h : 0 ≤ wrap64 V ∧ wrap64 V ≤ 99) : V ≤ 99 := by
  unfold wrap64 at h
  omega
theorem tx_ok {q : List Nat} {bad : Bool} (h : txB true q bad = false) (hs : (strN (txV true q)).size ≤ 2000) : okT q = true ∧ bad = false := by
  simp only [txB, if_true, Bool.or_eq_false_iff] at h
  obtain ⟨⟨h1, h2⟩, h3⟩ := h
  refine ⟨?_, h1⟩
  have h4 := of_decide_eq_false h3
  rw [strN_size] at hs
  simp only [txV, if_true, h3] at hs
  rw [if_neg (by simp), List.length_take] at hs
  unfold okT
  rw [h2, h3]
  simp only [Bool.not_false, Bool.and_true, Bool.true_and, decide_eq_true_eq]
  omega
theorem ok_tx {q : List Nat} (h : okT q = true) (bad : Bool) : txB true q bad = bad ∧ txV true q = (q.drop (numN q)).take (numV q) ∧ txL true q = q.drop (numN q + numV q) ∧ (strN (txV true q)).size ≤ 2000 ∧ numN q + numV q ≤ q.length := by
  simp only [okT, Bool.and_eq_true, Bool.not_eq_true', decide_eq_true_eq] at h
  obtain ⟨⟨h1, h2⟩, h3⟩ := h
  have h4 := of_decide_eq_false h3
  have e : txV true q = (q.drop (numN q)).take (numV q) := by
    unfold txV
    rw [if_pos rfl, h3]
    rfl
  have hn := numN_le q
  rw [List.length_drop] at h4
  refine ⟨?_, e, ?_, ?_, by omega⟩
  · unfold txB
    rw [if_pos rfl, h1, h3]
    simp
  · unfold txL
    rw [if_pos rfl, h3, ← List.drop_drop]
    rfl
  · rw [e, strN_size, List.length_take]
    omega
/-- What must hold. -/
structure Reads (l : List Nat) (first : Int) : Prop where
  n0 : numN (p0 l) ≠ 0
  v0 : numV (p0 l) ≤ 99
  n1 : numN (p1 l) ≠ 0
  t0 : 0 ≤ first + zag (numV (p1 l))
  t1 : first + zag (numV (p1 l)) ≤ 1125899906842624
  k : hkOf l = true → okT (p2 l) = true
  v : hvOf l = true → okT (p3 l) = true
theorem reads_of {l : List Nat} {first : Int} (f0 : 0 ≤ first) (f1 : first ≤ 1125899906842624) (h : okD l first = true) : Reads l first := by
  unfold okD at h
  simp only [Bool.and_eq_true, Bool.not_eq_true', beq_iff_eq] at h
  obtain ⟨⟨_, hb⟩, hc⟩ := h
  obtain ⟨t0, t1, o0, o1, k1, v1, _, _⟩ := chk_ok hc
  simp only [rcOf] at t0 t1 o0 o1 k1 v1
  have z := zag_bd (numV (p1 l)) (numV_le _)
  have ht := wrap_in (by omega) (by omega) ⟨t0, t1⟩
  unfold badAt at hb
  have hkv : (hvOf l = true → okT (p3 l) = true) ∧ txB (hkOf l) (p2 l) (b2 l) = false := by
    cases hv : hvOf l
    · rw [hv] at hb
      exact ⟨fun c => (by cases c), hb⟩
    · rw [hv] at hb v1
      exact ⟨fun _ => (tx_ok hb v1).1, (tx_ok hb v1).2⟩
  have hkk : (hkOf l = true → okT (p2 l) = true) ∧ b2 l = false := by
    have hb2 := hkv.2
    cases hk : hkOf l
    · rw [hk] at hb2
      exact ⟨fun c => (by cases c), hb2⟩
    · rw [hk] at hb2 k1
      exact ⟨fun _ => (tx_ok hb2 k1).1, (tx_ok hb2 k1).2⟩
  have h2 := hkk.2
  simp only [b2, Bool.or_eq_false_iff, beq_eq_false_iff_ne] at h2
  exact ⟨h2.1, wrap_off (numV_le _) ⟨o0, o1⟩, h2.2, ht.1, ht.2, hkk.1, hkv.1⟩
theorem of_reads {l : List Nat} {first : Int} (hg : gate l first = true) (h : Reads l first) : okD l first = true ∧
    rcOf l first = ⟨hkOf l, if hkOf l = true then strN (((p2 l).drop (numN (p2 l))).take (numV (p2 l))) else ⟨#[]⟩, hvOf l, if hvOf l = true then strN (((p3 l).drop (numN (p3 l))).take (numV (p3 l))) else ⟨#[]⟩, first + zag (numV (p1 l)), ((numV (p0 l) : Nat) : Int)⟩ := by
  obtain ⟨n0, v0, n1, t0, t1, k, v⟩ := h
  have e1 : wrap64 (first + zag (numV (p1 l))) = first + zag (numV (p1 l)) := w64 _ (by omega) (by omega)
  have e2 : wrap64 ((numV (p0 l) : Nat) : Int) = ((numV (p0 l) : Nat) : Int) := w64 _ (by omega) (by omega)
  have s1 : strN (txV (hkOf l) (p2 l)) = (if hkOf l = true then strN (((p2 l).drop (numN (p2 l))).take (numV (p2 l))) else ⟨#[]⟩) ∧ (strN (txV (hkOf l) (p2 l))).size ≤ 2000 ∧ (hkOf l = false → (strN (txV (hkOf l) (p2 l))).toList = []) ∧ txB (hkOf l) (p2 l) (b2 l) = b2 l := by
    cases hk : hkOf l
    · exact ⟨rfl, empty_facts.1, fun _ => empty_facts.2, rfl⟩
    · obtain ⟨a1, a2, a3, a4, a5⟩ := ok_tx (k hk) (b2 l)
      exact ⟨by rw [a2, if_pos rfl], a4, fun c => (by cases c), a1⟩
  have s2 : strN (txV (hvOf l) (p3 l)) = (if hvOf l = true then strN (((p3 l).drop (numN (p3 l))).take (numV (p3 l))) else ⟨#[]⟩) ∧ (strN (txV (hvOf l) (p3 l))).size ≤ 2000 ∧ (hvOf l = false → (strN (txV (hvOf l) (p3 l))).toList = []) ∧ txB (hvOf l) (p3 l) (b2 l) = b2 l := by
    cases hv : hvOf l
    · exact ⟨rfl, empty_facts.1, fun _ => empty_facts.2, rfl⟩
    · obtain ⟨a1, a2, a3, a4, a5⟩ := ok_tx (v hv) (b2 l)
      exact ⟨by rw [a2, if_pos rfl], a4, fun c => (by cases c), a1⟩
  have eb : b2 l = false := by
    unfold b2
    rw [Bool.or_eq_false_iff, beq_eq_false_iff_ne, beq_eq_false_iff_ne]
    exact ⟨n0, n1⟩
  have hbad : badAt l = false := by
    unfold badAt
    rw [s1.2.2.2, s2.2.2.2, eb]
  have hchk : chk (rcOf l first) = 0 := by
    unfold chk oddB rcOf
    simp only [e1, e2]
    have c1 : timeB (first + zag (numV (p1 l))) = true := (time_iff _).2 ⟨t0, t1⟩
    rw [c1]
    have q1 := s1.2.1
    have q2 := s1.2.2.1
    have q3 := s2.2.1
    have q4 := s2.2.2.1
    generalize strN (txV (hkOf l) (p2 l)) = x at *
    generalize strN (txV (hvOf l) (p3 l)) = y at *
    generalize hkOf l = a at *
    generalize hvOf l = b at *
    generalize numV (p0 l) = V at *
    clear s1 s2 k v
    grind
  refine ⟨?_, ?_⟩
  · unfold okD
    rw [hg, hbad, hchk]
    rfl
  · unfold rcOf
    rw [e1, e2, s1.1, s2.1]
end Go.Proofs.YtaooidckmepdeaaDoor
namespace Go.Proofs.YtaooidckmepdeaaDoor
set_option linter.unusedSimpArgs false
set_option linter.unusedVariables false
open Go.RowKit
theorem row_blk {w : World} {a : Option Addr} {l : List Nat} (hr : Row w a l) (h0 : 0 < l.length) : ∀ x, a = some x → x.block < w.heap.size := by
  intro x hx
  obtain ⟨b, off, e, hc, _⟩ := hr 0 h0
  rw [hx] at e
  injection e with e
  subst e
  exact World.block_lt_of_cell? _ _ hc
theorem ds_start {w : World} {a : Option Addr} {l : List Nat} {cap : Nat} (hk hv : Bool) (hr : Row w a l) (h0 : 0 < l.length) (hl : l.length ≤ cap) (hc : cap ≤ maxLen) :
    DS w.heap.size w.heap.size (w.heap.size + 1) w ((w.alloc (.cells #[.bool hk, .string ⟨#[]⟩, .bool hv, .string ⟨#[]⟩, .int .i64 0, .int .i64 0] 87)).alloc (.cells #[.slice (cutA a cap 1) (l.length - 1) (cap - 1), .bool false] 174)) ⟨hk, ⟨#[]⟩, hv, ⟨#[]⟩, 0, 0⟩ (l.drop 1) false := by
  have hb1 : Below w.heap.size w (w.alloc (.cells #[.bool hk, .string ⟨#[]⟩, .bool hv, .string ⟨#[]⟩, .int .i64 0, .int .i64 0] 87)) := below_box _
  obtain ⟨w1, hw1⟩ : ∃ w1, w1 = w.alloc (.cells #[.bool hk, .string ⟨#[]⟩, .bool hv, .string ⟨#[]⟩, .int .i64 0, .int .i64 0] 87) := ⟨_, rfl⟩
  have hs1 : w1.heap.size = w.heap.size + 1 := by rw [hw1]; simp
  have hg1 : w1.heap[w.heap.size]? = some (.cells #[.bool hk, .string ⟨#[]⟩, .bool hv, .string ⟨#[]⟩, .int .i64 0, .int .i64 0] 87 (0, 0)) := by rw [hw1]; exact heap_alloc_new w _
  rw [← hw1] at hb1 ⊢
  obtain ⟨w2, hw2⟩ : ∃ w2, w2 = w1.alloc (.cells #[.slice (cutA a cap 1) (l.length - 1) (cap - 1), .bool false] 174) := ⟨_, rfl⟩
  have hb2 : Below w1.heap.size w1 w2 := by rw [hw2]; exact below_box _
  have hg2 : w2.heap[w1.heap.size]? = some (.cells #[.slice (cutA a cap 1) (l.length - 1) (cap - 1), .bool false] 174 (0, 0)) := by rw [hw2]; exact heap_alloc_new w1 _
  have hB := hb1.trans (hb2.mono (by omega))
  rw [← hw2]
  rw [hs1] at hg2
  have hc2 : ∀ j, w2.cell? ⟨w.heap.size + 1, j, none⟩ = (#[.slice (cutA a cap 1) (l.length - 1) (cap - 1), .bool false] : Array Value)[j]? := fun j => cell_of_row _ _ j _ 174 (0, 0) hg2
  have hf2 : ∀ j, w2.frozen? ⟨w.heap.size + 1, j, none⟩ = false := fun j => by simp [World.frozen?, hg2]
  have hlow := cut_low (cap := cap) (n := 1) (row_blk hr h0)
  refine ⟨by rw [hb2.block _ (by omega)]; exact hg1, ⟨⟨cutA a cap 1, cap - 1, by rw [hc2, List.length_drop]; rfl, row_low (row_cut cap 1 hr hl) hlow hB, by simp; omega, by omega, hlow⟩, by rw [hc2]; rfl, hf2 0, hf2 1⟩, hB, Nat.le_refl _, Nat.lt_succ_self _⟩
theorem u8_and1 (x : Nat) (h : x < 256) : bits .and .u8 (x : Int) 1 = ((x % 2 : Nat) : Int) := by
  rw [u8_and _ _ (by omega) (by omega) (by omega) (by omega), show ((1 : Int).toNat) = 2 ^ 1 - 1 by decide, Nat.and_two_pow_sub_one_eq_mod]
  simp
theorem and2_nat : ∀ x : Fin 4, x.val &&& 2 = x.val / 2 * 2 := by decide
theorem u8_and2 (x : Nat) (h : x ≤ 3) : bits .and .u8 (x : Int) 2 = ((x / 2 * 2 : Nat) : Int) := by
  rw [u8_and _ _ (by omega) (by omega) (by omega) (by omega)]
  have := and2_nat ⟨x, by omega⟩
  simp only at this
  rw [show ((x : Int)).toNat = x by omega, show ((2 : Int).toNat) = 2 by decide, this]
theorem ds_after {M R B : Nat} {w0 w w' : World} {r : Rc} {l : List Nat} {bad : Bool} (h : DS M R B w0 w r l bad) (hb : Below w.heap.size w w') (hM : M ≤ w0.heap.size) : w'.heap[R]? = some (.cells r.cells 87 (0, 0)) ∧ Below M w0 w' := by
  have hlt : R < w.heap.size := (Array.getElem?_eq_some_iff.1 h.box).1
  exact ⟨by rw [hb.block R hlt]; exact h.box, h.bel.trans (hb.mono (Nat.le_trans hM h.bel.size))⟩
/-- What stands while the answer is laid. -/
def SD (w0 : World) (M R B : Nat) (r : Rc) (x : Value) (y : World) : Prop := y.heap[R]? = some (.cells r.cells 87 (0, 0)) ∧ y.cell? ⟨B, 0, none⟩ = some x ∧ Below M w0 y
theorem box_cells {w : World} {R : Nat} {r : Rc} (h : w.heap[R]? = some (.cells r.cells 87 (0, 0))) :
    w.cell? ⟨R, 0, none⟩ = some (.bool r.hk) ∧ w.cell? ⟨R, 1, none⟩ = some (.string r.k) ∧ w.cell? ⟨R, 2, none⟩ = some (.bool r.hv) ∧ w.cell? ⟨R, 3, none⟩ = some (.string r.v) ∧ w.cell? ⟨R, 4, none⟩ = some (.int .i64 r.t) ∧ w.cell? ⟨R, 5, none⟩ = some (.int .i64 r.o) := by
  have hc : ∀ j, w.cell? ⟨R, j, none⟩ = r.cells[j]? := fun j => cell_of_row _ R j r.cells 87 (0, 0) h
  exact ⟨by rw [hc]; rfl, by rw [hc]; rfl, by rw [hc]; rfl, by rw [hc]; rfl, by rw [hc]; rfl, by rw [hc]; rfl⟩
theorem sd_setRow {w0 : World} {M R B : Nat} {r : Rc} {x : Value} {y : World} (h : SD w0 M R B r x y) (hM : M ≤ R) (hRB : R < B) : SD w0 M R B r x (y.setRow R r.cells) := by
  refine ⟨setRow_heap _ _ _ _ _ _ h.1, ?_, below_setRow h.2.2 hM _⟩
  have hB : (y.setRow R r.cells).heap[B]? = y.heap[B]? := setRow_other y R B _ (by omega)
  have := h.2.1
  unfold World.cell? at this ⊢
  rw [hB]
  exact this
theorem sd_of {w0 w w' : World} {M R B : Nat} {r : Rc} {l : List Nat} {bad : Bool} (h : DS M R B w0 w r l bad) (hb : Below w.heap.size w w') (hM : M ≤ w0.heap.size) : ∃ a c, w'.cell? ⟨B, 0, none⟩ = some (.slice a l.length c) ∧ SD w0 M R B r (.slice a l.length c) w' := by
  obtain ⟨h1, h2⟩ := ds_after h hb hM
  obtain ⟨a, c, c0, _⟩ := h.rd.ex
  have : w'.cell? ⟨B, 0, none⟩ = some (.slice a l.length c) := by rw [hb.cell (World.block_lt_of_cell? _ _ c0)]; exact c0
  exact ⟨a, c, this, h1, this, h2⟩
set_option maxRecDepth 100000 in
set_option maxHeartbeats 2000000 in
theorem decode_in (b off cap : Nat) (l : List Nat) (first : Int) (w : World) (c : Nat) (hc0 : w.cell? ⟨b, off, none⟩ = some (.int .u8 (c : Int))) (h0 : 0 < l.length) (hl : l.length ≤ cap) (hcm : cap ≤ 9223372036854775807) (h3 : c ≤ 3)
    (hk hv : Bool) (hk1 : (bits .and .u8 (c : Int) 1 != 0) = hk) (hv1 : (bits .and .u8 (c : Int) 2 != 0) = hv) (x : Option Addr) (hx : x = cutA (some ⟨b, off, none⟩) cap 1)
    (HI : Hid (∀ w', Calls Tryd.prog 105 #[.int .i64 first] w' fun e w2 => e = .returned (.bool true) ∧ w2 = w'))
    (q0 q1 q2 q3 q4 : List Nat) (V0 V1 : Nat) (Z T O : Int) (bA bB bC bD : Bool) (s1 s2 : ByteArray)
    (HD : Hid (DS w.heap.size w.heap.size (w.heap.size + 1) w ((w.alloc (.cells #[.bool hk, .string ⟨#[]⟩, .bool hv, .string ⟨#[]⟩, .int .i64 0, .int .i64 0] 87)).alloc (.cells #[.slice x (l.length - 1) (cap - 1), .bool false] 174)) ⟨hk, ⟨#[]⟩, hv, ⟨#[]⟩, 0, 0⟩ q0 false))
    (HN0 : Hid (∀ w' r, DS w.heap.size w.heap.size (w.heap.size + 1) w w' r q0 false → Calls Tryd.prog 111 #[.pointer (some ⟨w.heap.size + 1, 0, none⟩)] w' fun e w2 => e = .returned (.int .u64 (V0 : Int)) ∧ DS w.heap.size w.heap.size (w.heap.size + 1) w w2 r q1 bA))
    (HN1 : Hid (∀ w' r, DS w.heap.size w.heap.size (w.heap.size + 1) w w' r q1 bA → Calls Tryd.prog 111 #[.pointer (some ⟨w.heap.size + 1, 0, none⟩)] w' fun e w2 => e = .returned (.int .u64 (V1 : Int)) ∧ DS w.heap.size w.heap.size (w.heap.size + 1) w w2 r q2 bB))
    (HZ : Hid (∀ w', Calls Tryd.prog 112 #[.int .u64 (V1 : Int)] w' fun e w2 => e = .returned (.int .i64 Z) ∧ w2 = w'))
    (HT1 : Hid (∀ w' r, DS w.heap.size w.heap.size (w.heap.size + 1) w w' r q2 bB → Calls Tryd.prog 113 #[.pointer (some ⟨w.heap.size + 1, 0, none⟩), .bool hk] w' fun e w2 => e = .returned (.string s1) ∧ DS w.heap.size w.heap.size (w.heap.size + 1) w w2 r q3 bC))
    (HT2 : Hid (∀ w' r, DS w.heap.size w.heap.size (w.heap.size + 1) w w' r q3 bC → Calls Tryd.prog 113 #[.pointer (some ⟨w.heap.size + 1, 0, none⟩), .bool hv] w' fun e w2 => e = .returned (.string s2) ∧ DS w.heap.size w.heap.size (w.heap.size + 1) w w2 r q4 bD))
    (hO : IntKind.i64.wrap (V0 : Int) = O) (hT : IntKind.i64.wrap (first + Z) = T) (cc : Int)
    (HC : Hid (∀ w', Calls Tryd.prog 102 #[.agg #[.bool hk, .string s1, .bool hv, .string s2, .int .i64 T, .int .i64 O]] w' fun e w2 => e = .returned (.int .i64 cc) ∧ Below w'.heap.size w' w2)) (R : Value)
    (HR : Hid (R = if bD = false ∧ cc = 0 then .tuple #[.agg (Rc.cells ⟨hk, s1, hv, s2, T, O⟩), .int .i64 ((l.length - q4.length : Nat) : Int), .int .i64 0] else .tuple #[.agg rz.cells, .int .i64 0, .int .i64 10])) (hq4 : q4.length ≤ l.length) :
    Calls Tryd.prog 104 #[.slice (some ⟨b, off, none⟩) l.length cap, .int .i64 first] w fun e w' => e = .returned R ∧ Below w.heap.size w w' := by
  have hbw : b < w.heap.size := World.block_lt_of_cell? _ _ hc0
  have h0I : ((l.length : Int) == 0) = false := by rw [beq_eq_false_iff_ne]; omega
  have hM := Nat.le_refl w.heap.size
  have hsub : IntKind.i64.wrap ((l.length : Int) - (q4.length : Int)) = ((l.length - q4.length : Nat) : Int) := by rw [IntKind.wrap_i64]; omega
  have h0J : (0 : Int) < (l.length : Int) := by omega
  have h3I : ¬ (3 : Int) < (c : Int) := by omega
  have tok1 : True := trivial
  have tok2 : True := trivial
  have hxx : x = if cap = 1 then some ⟨b, off, none⟩ else some ⟨b, off + 1, none⟩ := by rw [hx]; unfold cutA; split <;> rfl
  clear hx
  by_cases hcap : cap = 1
  · rw [if_pos hcap] at hxx
    subst hxx
    rw [hcap] at HD
    rcases bD with _ | _
    · by_cases hcc : cc = 0
      · have hRR : R = .tuple #[.agg (Rc.cells ⟨hk, s1, hv, s2, T, O⟩), .int .i64 ((l.length - q4.length : Nat) : Int), .int .i64 0] := by rw [HR.out, if_pos ⟨rfl, hcc⟩]
        subst hRR
        subst hcc
        clear HR hq4
        go_enter Tryd.func104, Tryd.ntmps104
        go_wp2_with (first
      | (go_at_call 105; refine (HI.out _).mono ?_; rintro e w2 ⟨rfl, hw⟩; subst w2)
      | (go_at_call 111; have _t := tok1; refine (HN0.out _ _ HD.out).mono ?_; clear tok1 _t; rintro e w1 ⟨rfl, hD1⟩; have HD1 : Hid _ := hD1; obtain ⟨e0, e1, e2, e3, e4, e5, ef⟩ := DS.cells hD1; simp only at e0 e1 e2 e3 e4 e5; clear hD1)
      | (go_at_call 111; refine (HN1.out _ _ (DS.put HD1.out 5 _ ⟨hk, ⟨#[]⟩, hv, ⟨#[]⟩, 0, O⟩ rfl)).mono ?_; clear HD1 e0 e1 e2 e3 e4 e5 ef; rintro e w2 ⟨rfl, hD2⟩; have HD2 : Hid _ := hD2; obtain ⟨e0, e1, e2, e3, e4, e5, ef⟩ := DS.cells hD2; simp only at e0 e1 e2 e3 e4 e5; clear hD2)
      | (go_at_call 112; refine (HZ.out _).mono ?_; rintro e w3 ⟨rfl, hw⟩; subst w3)
      | (go_at_call 113; have _t := tok2; refine (HT1.out _ _ (DS.put HD2.out 4 _ ⟨hk, ⟨#[]⟩, hv, ⟨#[]⟩, T, O⟩ rfl)).mono ?_; clear tok2 _t HD2 e0 e1 e2 e3 e4 e5 ef; rintro e w4 ⟨rfl, hD3⟩; have HD3 : Hid _ := hD3; obtain ⟨e0, e1, e2, e3, e4, e5, ef⟩ := DS.cells hD3; simp only at e0 e1 e2 e3 e4 e5; clear hD3)
      | (go_at_call 113; refine (HT2.out _ _ (DS.put HD3.out 1 _ ⟨hk, s1, hv, ⟨#[]⟩, T, O⟩ rfl)).mono ?_; clear HD3 e0 e1 e2 e3 e4 e5 ef; rintro e w5 ⟨rfl, hD4⟩; have HD5 : Hid _ := DS.put hD4 3 (.string s2) ⟨hk, s1, hv, s2, T, O⟩ rfl; obtain ⟨e0, e1, e2, e3, e4, e5, ef⟩ := DS.cells hD4; have hB1 := hD4.rd.c1; have hBB := hD4.rb; simp only at e0 e1 e2 e3 e4 e5; clear hD4)
      | (go_at_call 102; refine (HC.out _).mono ?_; rintro e w6 ⟨rfl, hb6⟩; have HX : Hid _ := ds_after HD5.out hb6 hM))
        obtain ⟨a4, c4, hx4, hSD⟩ := sd_of HD5.out hb6 hM
        clear hx4
        refine wp_region_lat (SD w w.heap.size w.heap.size (w.heap.size + 1) ⟨hk, s1, hv, s2, T, O⟩ (.slice a4 q4.length c4)) 9 (by kernel_rfl) (show SD w w.heap.size w.heap.size (w.heap.size + 1) ⟨hk, s1, hv, s2, T, O⟩ (.slice a4 q4.length c4) w6.drew from ⟨hSD.1, hSD.2.1, hSD.2.2.drew⟩) (fun hHeld => ?_)
        clear hSD
        refine lat_take 0 (v := ?_) rfl (by kernel_rfl) (by kernel_rfl) (by kernel_rfl) (by kernel_rfl) (fun _ _ _ h => h) (by rfl) ?_ (by assumption) ?_
        rotate_left
        · (intro w hSw; obtain ⟨zh, zx, zb⟩ := hSw; obtain ⟨z0, z1, z2, z3, z4, z5⟩ := box_cells zh; clear zh zb; simp only at z0 z1 z2 z3 z4 z5; go_simp <;> with_reducible rfl)
        try simp only [Act.put, List.setIfInBounds_toArray, List.set_cons_zero, List.set_cons_succ]
        refine lat_take 1 (v := ?_) rfl (by kernel_rfl) (by kernel_rfl) (by kernel_rfl) (by kernel_rfl) (fun _ _ _ h => h) (by rfl) ?_ (by assumption) ?_
        rotate_left
        · (intro w hSw; obtain ⟨zh, zx, zb⟩ := hSw; obtain ⟨z0, z1, z2, z3, z4, z5⟩ := box_cells zh; clear zh zb; simp only at z0 z1 z2 z3 z4 z5; go_simp <;> with_reducible rfl)
        try simp only [Act.put, List.setIfInBounds_toArray, List.set_cons_zero, List.set_cons_succ]
        refine lat_take 2 (v := ?_) rfl (by kernel_rfl) (by kernel_rfl) (by kernel_rfl) (by kernel_rfl) (fun _ _ _ h => h) (by rfl) ?_ (by assumption) ?_
        rotate_left
        · (intro w hSw; obtain ⟨zh, zx, zb⟩ := hSw; obtain ⟨z0, z1, z2, z3, z4, z5⟩ := box_cells zh; clear zh zb; simp only at z0 z1 z2 z3 z4 z5; go_simp <;> with_reducible rfl)
        try simp only [Act.put, List.setIfInBounds_toArray, List.set_cons_zero, List.set_cons_succ]
        refine lat_take 3 (v := ?_) rfl (by kernel_rfl) (by kernel_rfl) (by kernel_rfl) (by kernel_rfl) (fun _ _ _ h => h) (by rfl) ?_ (by assumption) ?_
        rotate_left
        · (intro w hSw; obtain ⟨zh, zx, zb⟩ := hSw; obtain ⟨z0, z1, z2, z3, z4, z5⟩ := box_cells zh; clear zh zb; simp only at z0 z1 z2 z3 z4 z5; go_simp <;> with_reducible rfl)
        try simp only [Act.put, List.setIfInBounds_toArray, List.set_cons_zero, List.set_cons_succ]
        refine lat_take 4 (v := ?_) rfl (by kernel_rfl) (by kernel_rfl) (by kernel_rfl) (by kernel_rfl) (fun _ _ _ h => h) (by rfl) ?_ (by assumption) ?_
        rotate_left
        · (intro w hSw; obtain ⟨zh, zx, zb⟩ := hSw; obtain ⟨z0, z1, z2, z3, z4, z5⟩ := box_cells zh; clear zh zb; simp only at z0 z1 z2 z3 z4 z5; go_simp <;> with_reducible rfl)
        try simp only [Act.put, List.setIfInBounds_toArray, List.set_cons_zero, List.set_cons_succ]
        refine lat_take 5 (v := ?_) rfl (by kernel_rfl) (by kernel_rfl) (by kernel_rfl) (by kernel_rfl) (fun _ _ _ h => h) (by rfl) ?_ (by assumption) ?_
        rotate_left
        · (intro w hSw; obtain ⟨zh, zx, zb⟩ := hSw; obtain ⟨z0, z1, z2, z3, z4, z5⟩ := box_cells zh; clear zh zb; simp only at z0 z1 z2 z3 z4 z5; go_simp <;> with_reducible rfl)
        try simp only [Act.put, List.setIfInBounds_toArray, List.set_cons_zero, List.set_cons_succ]
        refine lat_take 6 (v := ?_) rfl (by kernel_rfl) (by kernel_rfl) (by kernel_rfl) (by kernel_rfl) (fun _ _ _ h => h) (by rfl) ?_ (by assumption) ?_
        rotate_left
        · (intro w hSw; obtain ⟨zh, zx, zb⟩ := hSw; obtain ⟨z0, z1, z2, z3, z4, z5⟩ := box_cells zh; clear zh zb; simp only at z0 z1 z2 z3 z4 z5; go_simp <;> with_reducible rfl)
        try simp only [Act.put, List.setIfInBounds_toArray, List.set_cons_zero, List.set_cons_succ]
        refine lat_one 7 rfl (by kernel_rfl) (by decide) (by rfl) (fun K hK => ?_)
        refine wp_store_row 87 _ _ rfl w.heap.size (Rc.cells ⟨hk, s1, hv, s2, T, O⟩) rfl rfl 87 (Rc.cells ⟨hk, s1, hv, s2, T, O⟩) hHeld.1 Tryd.info87 rfl (rc_one _) ?_
        refine hK.out _ _ (sd_setRow hHeld (Nat.le_refl _) (Nat.lt_succ_self _)) (fun hHeld2 => ?_)
        clear hK hHeld
        try simp only [Act.put, List.setIfInBounds_toArray, List.set_cons_zero, List.set_cons_succ]
        refine lat_take 8 (v := ?_) rfl (by kernel_rfl) (by kernel_rfl) (by kernel_rfl) (by kernel_rfl) (fun _ _ _ h => h) (by rfl) ?_ (by assumption) ?_
        rotate_left
        · (intro w hSw; obtain ⟨zh, zx, zb⟩ := hSw; obtain ⟨z0, z1, z2, z3, z4, z5⟩ := box_cells zh; clear zh zb; simp only at z0 z1 z2 z3 z4 z5; go_simp <;> with_reducible rfl)
        try simp only [Act.put, List.setIfInBounds_toArray, List.set_cons_zero, List.set_cons_succ]
        refine lat_last 9 rfl (by kernel_rfl) (by decide) (by kernel_rfl) (by rfl) (fun K hK => ?_)
        go_simp
        refine hK.out _ _ ?_
        clear hK
        try simp only [Act.put, List.setIfInBounds_toArray, List.set_cons_zero, List.set_cons_succ]
        go_wp2_with fail
        refine bodyPost_ret (v := .tuple #[.agg (Rc.cells ⟨hk, s1, hv, s2, T, O⟩), .int .i64 ((l.length - q4.length : Nat) : Int), .int .i64 0]) ?_ rfl ⟨rfl, hHeld2.2.2⟩
        exact results_rec (p := 4) (u := 5) (u2 := 6) (by rfl) _ _ w.heap.size ⟨hk, s1, hv, s2, T, O⟩ _ _ (by rfl) (by rfl) (by rfl) hHeld2.1
      · have hRR : R = .tuple #[.agg rz.cells, .int .i64 0, .int .i64 10] := by rw [HR.out, if_neg (fun q => hcc q.2)]
        subst hRR
        have hne : (cc != 0) = true := by rw [bne_iff_ne]; exact hcc
        clear HR hq4 hcc
        go_enter Tryd.func104, Tryd.ntmps104
        go_wp2_with (first
      | (go_at_call 105; refine (HI.out _).mono ?_; rintro e w2 ⟨rfl, hw⟩; subst w2)
      | (go_at_call 111; have _t := tok1; refine (HN0.out _ _ HD.out).mono ?_; clear tok1 _t; rintro e w1 ⟨rfl, hD1⟩; have HD1 : Hid _ := hD1; obtain ⟨e0, e1, e2, e3, e4, e5, ef⟩ := DS.cells hD1; simp only at e0 e1 e2 e3 e4 e5; clear hD1)
      | (go_at_call 111; refine (HN1.out _ _ (DS.put HD1.out 5 _ ⟨hk, ⟨#[]⟩, hv, ⟨#[]⟩, 0, O⟩ rfl)).mono ?_; clear HD1 e0 e1 e2 e3 e4 e5 ef; rintro e w2 ⟨rfl, hD2⟩; have HD2 : Hid _ := hD2; obtain ⟨e0, e1, e2, e3, e4, e5, ef⟩ := DS.cells hD2; simp only at e0 e1 e2 e3 e4 e5; clear hD2)
      | (go_at_call 112; refine (HZ.out _).mono ?_; rintro e w3 ⟨rfl, hw⟩; subst w3)
      | (go_at_call 113; have _t := tok2; refine (HT1.out _ _ (DS.put HD2.out 4 _ ⟨hk, ⟨#[]⟩, hv, ⟨#[]⟩, T, O⟩ rfl)).mono ?_; clear tok2 _t HD2 e0 e1 e2 e3 e4 e5 ef; rintro e w4 ⟨rfl, hD3⟩; have HD3 : Hid _ := hD3; obtain ⟨e0, e1, e2, e3, e4, e5, ef⟩ := DS.cells hD3; simp only at e0 e1 e2 e3 e4 e5; clear hD3)
      | (go_at_call 113; refine (HT2.out _ _ (DS.put HD3.out 1 _ ⟨hk, s1, hv, ⟨#[]⟩, T, O⟩ rfl)).mono ?_; clear HD3 e0 e1 e2 e3 e4 e5 ef; rintro e w5 ⟨rfl, hD4⟩; have HD5 : Hid _ := DS.put hD4 3 (.string s2) ⟨hk, s1, hv, s2, T, O⟩ rfl; obtain ⟨e0, e1, e2, e3, e4, e5, ef⟩ := DS.cells hD4; have hB1 := hD4.rd.c1; have hBB := hD4.rb; simp only at e0 e1 e2 e3 e4 e5; clear hD4)
      | (go_at_call 102; refine (HC.out _).mono ?_; rintro e w6 ⟨rfl, hb6⟩; have HX : Hid _ := ds_after HD5.out hb6 hM)
      | (have _t := HX; refine wpList_store_row rfl 87 _ _ rfl w.heap.size rz.cells rfl rfl 87 (Rc.cells ⟨hk, s1, hv, s2, T, O⟩) HX.out.1 Tryd.info87 rfl (rc_one _) ?_))
        refine bodyPost_ret (v := .tuple #[.agg rz.cells, .int .i64 0, .int .i64 10]) ?_ rfl ⟨rfl, ?_⟩
        · exact results_rec (p := 4) (u := 5) (u2 := 6) (by rfl) _ _ w.heap.size rz _ _ (by rfl) (by rfl) (by rfl) (setRow_heap _ _ _ _ _ _ HX.out.1)
        · exact below_setRow HX.out.2 (Nat.le_refl _) _
    · have hRR : R = .tuple #[.agg rz.cells, .int .i64 0, .int .i64 10] := by rw [HR.out, if_neg (fun q => by cases q.1)]
      subst hRR
      clear HR hq4
      go_enter Tryd.func104, Tryd.ntmps104
      go_wp2_with (first
      | (go_at_call 105; refine (HI.out _).mono ?_; rintro e w2 ⟨rfl, hw⟩; subst w2)
      | (go_at_call 111; have _t := tok1; refine (HN0.out _ _ HD.out).mono ?_; clear tok1 _t; rintro e w1 ⟨rfl, hD1⟩; have HD1 : Hid _ := hD1; obtain ⟨e0, e1, e2, e3, e4, e5, ef⟩ := DS.cells hD1; simp only at e0 e1 e2 e3 e4 e5; clear hD1)
      | (go_at_call 111; refine (HN1.out _ _ (DS.put HD1.out 5 _ ⟨hk, ⟨#[]⟩, hv, ⟨#[]⟩, 0, O⟩ rfl)).mono ?_; clear HD1 e0 e1 e2 e3 e4 e5 ef; rintro e w2 ⟨rfl, hD2⟩; have HD2 : Hid _ := hD2; obtain ⟨e0, e1, e2, e3, e4, e5, ef⟩ := DS.cells hD2; simp only at e0 e1 e2 e3 e4 e5; clear hD2)
      | (go_at_call 112; refine (HZ.out _).mono ?_; rintro e w3 ⟨rfl, hw⟩; subst w3)
      | (go_at_call 113; have _t := tok2; refine (HT1.out _ _ (DS.put HD2.out 4 _ ⟨hk, ⟨#[]⟩, hv, ⟨#[]⟩, T, O⟩ rfl)).mono ?_; clear tok2 _t HD2 e0 e1 e2 e3 e4 e5 ef; rintro e w4 ⟨rfl, hD3⟩; have HD3 : Hid _ := hD3; obtain ⟨e0, e1, e2, e3, e4, e5, ef⟩ := DS.cells hD3; simp only at e0 e1 e2 e3 e4 e5; clear hD3)
      | (go_at_call 113; refine (HT2.out _ _ (DS.put HD3.out 1 _ ⟨hk, s1, hv, ⟨#[]⟩, T, O⟩ rfl)).mono ?_; clear HD3 e0 e1 e2 e3 e4 e5 ef; rintro e w5 ⟨rfl, hD4⟩; have HD5 : Hid _ := DS.put hD4 3 (.string s2) ⟨hk, s1, hv, s2, T, O⟩ rfl; obtain ⟨e0, e1, e2, e3, e4, e5, ef⟩ := DS.cells hD4; have hB1 := hD4.rd.c1; have hBB := hD4.rb; simp only at e0 e1 e2 e3 e4 e5; clear hD4)
      | (have _t := HD5; refine wpList_store_row rfl 87 _ _ rfl w.heap.size rz.cells rfl rfl 87 (Rc.cells ⟨hk, s1, hv, s2, T, O⟩) HD5.out.box Tryd.info87 rfl (rc_one _) ?_))
      refine bodyPost_ret (v := .tuple #[.agg rz.cells, .int .i64 0, .int .i64 10]) ?_ rfl ⟨rfl, ?_⟩
      · exact results_rec (p := 4) (u := 5) (u2 := 6) (by rfl) _ _ w.heap.size rz _ _ (by rfl) (by rfl) (by rfl) (setRow_heap _ _ _ _ _ _ HD5.out.box)
      · exact below_setRow HD5.out.bel (Nat.le_refl _) _
  · rw [if_neg hcap] at hxx
    subst hxx
    rcases bD with _ | _
    · by_cases hcc : cc = 0
      · have hRR : R = .tuple #[.agg (Rc.cells ⟨hk, s1, hv, s2, T, O⟩), .int .i64 ((l.length - q4.length : Nat) : Int), .int .i64 0] := by rw [HR.out, if_pos ⟨rfl, hcc⟩]
        subst hRR
        subst hcc
        clear HR hq4
        go_enter Tryd.func104, Tryd.ntmps104
        go_wp2_with (first
      | (go_at_call 105; refine (HI.out _).mono ?_; rintro e w2 ⟨rfl, hw⟩; subst w2)
      | (go_at_call 111; have _t := tok1; refine (HN0.out _ _ HD.out).mono ?_; clear tok1 _t; rintro e w1 ⟨rfl, hD1⟩; have HD1 : Hid _ := hD1; obtain ⟨e0, e1, e2, e3, e4, e5, ef⟩ := DS.cells hD1; simp only at e0 e1 e2 e3 e4 e5; clear hD1)
      | (go_at_call 111; refine (HN1.out _ _ (DS.put HD1.out 5 _ ⟨hk, ⟨#[]⟩, hv, ⟨#[]⟩, 0, O⟩ rfl)).mono ?_; clear HD1 e0 e1 e2 e3 e4 e5 ef; rintro e w2 ⟨rfl, hD2⟩; have HD2 : Hid _ := hD2; obtain ⟨e0, e1, e2, e3, e4, e5, ef⟩ := DS.cells hD2; simp only at e0 e1 e2 e3 e4 e5; clear hD2)
      | (go_at_call 112; refine (HZ.out _).mono ?_; rintro e w3 ⟨rfl, hw⟩; subst w3)
      | (go_at_call 113; have _t := tok2; refine (HT1.out _ _ (DS.put HD2.out 4 _ ⟨hk, ⟨#[]⟩, hv, ⟨#[]⟩, T, O⟩ rfl)).mono ?_; clear tok2 _t HD2 e0 e1 e2 e3 e4 e5 ef; rintro e w4 ⟨rfl, hD3⟩; have HD3 : Hid _ := hD3; obtain ⟨e0, e1, e2, e3, e4, e5, ef⟩ := DS.cells hD3; simp only at e0 e1 e2 e3 e4 e5; clear hD3)
      | (go_at_call 113; refine (HT2.out _ _ (DS.put HD3.out 1 _ ⟨hk, s1, hv, ⟨#[]⟩, T, O⟩ rfl)).mono ?_; clear HD3 e0 e1 e2 e3 e4 e5 ef; rintro e w5 ⟨rfl, hD4⟩; have HD5 : Hid _ := DS.put hD4 3 (.string s2) ⟨hk, s1, hv, s2, T, O⟩ rfl; obtain ⟨e0, e1, e2, e3, e4, e5, ef⟩ := DS.cells hD4; have hB1 := hD4.rd.c1; have hBB := hD4.rb; simp only at e0 e1 e2 e3 e4 e5; clear hD4)
      | (go_at_call 102; refine (HC.out _).mono ?_; rintro e w6 ⟨rfl, hb6⟩; have HX : Hid _ := ds_after HD5.out hb6 hM))
        obtain ⟨a4, c4, hx4, hSD⟩ := sd_of HD5.out hb6 hM
        clear hx4
        refine wp_region_lat (SD w w.heap.size w.heap.size (w.heap.size + 1) ⟨hk, s1, hv, s2, T, O⟩ (.slice a4 q4.length c4)) 9 (by kernel_rfl) (show SD w w.heap.size w.heap.size (w.heap.size + 1) ⟨hk, s1, hv, s2, T, O⟩ (.slice a4 q4.length c4) w6.drew from ⟨hSD.1, hSD.2.1, hSD.2.2.drew⟩) (fun hHeld => ?_)
        clear hSD
        refine lat_take 0 (v := ?_) rfl (by kernel_rfl) (by kernel_rfl) (by kernel_rfl) (by kernel_rfl) (fun _ _ _ h => h) (by rfl) ?_ (by assumption) ?_
        rotate_left
        · (intro w hSw; obtain ⟨zh, zx, zb⟩ := hSw; obtain ⟨z0, z1, z2, z3, z4, z5⟩ := box_cells zh; clear zh zb; simp only at z0 z1 z2 z3 z4 z5; go_simp <;> with_reducible rfl)
        try simp only [Act.put, List.setIfInBounds_toArray, List.set_cons_zero, List.set_cons_succ]
        refine lat_take 1 (v := ?_) rfl (by kernel_rfl) (by kernel_rfl) (by kernel_rfl) (by kernel_rfl) (fun _ _ _ h => h) (by rfl) ?_ (by assumption) ?_
        rotate_left
        · (intro w hSw; obtain ⟨zh, zx, zb⟩ := hSw; obtain ⟨z0, z1, z2, z3, z4, z5⟩ := box_cells zh; clear zh zb; simp only at z0 z1 z2 z3 z4 z5; go_simp <;> with_reducible rfl)
        try simp only [Act.put, List.setIfInBounds_toArray, List.set_cons_zero, List.set_cons_succ]
        refine lat_take 2 (v := ?_) rfl (by kernel_rfl) (by kernel_rfl) (by kernel_rfl) (by kernel_rfl) (fun _ _ _ h => h) (by rfl) ?_ (by assumption) ?_
        rotate_left
        · (intro w hSw; obtain ⟨zh, zx, zb⟩ := hSw; obtain ⟨z0, z1, z2, z3, z4, z5⟩ := box_cells zh; clear zh zb; simp only at z0 z1 z2 z3 z4 z5; go_simp <;> with_reducible rfl)
        try simp only [Act.put, List.setIfInBounds_toArray, List.set_cons_zero, List.set_cons_succ]
        refine lat_take 3 (v := ?_) rfl (by kernel_rfl) (by kernel_rfl) (by kernel_rfl) (by kernel_rfl) (fun _ _ _ h => h) (by rfl) ?_ (by assumption) ?_
        rotate_left
        · (intro w hSw; obtain ⟨zh, zx, zb⟩ := hSw; obtain ⟨z0, z1, z2, z3, z4, z5⟩ := box_cells zh; clear zh zb; simp only at z0 z1 z2 z3 z4 z5; go_simp <;> with_reducible rfl)
        try simp only [Act.put, List.setIfInBounds_toArray, List.set_cons_zero, List.set_cons_succ]
        refine lat_take 4 (v := ?_) rfl (by kernel_rfl) (by kernel_rfl) (by kernel_rfl) (by kernel_rfl) (fun _ _ _ h => h) (by rfl) ?_ (by assumption) ?_
        rotate_left
        · (intro w hSw; obtain ⟨zh, zx, zb⟩ := hSw; obtain ⟨z0, z1, z2, z3, z4, z5⟩ := box_cells zh; clear zh zb; simp only at z0 z1 z2 z3 z4 z5; go_simp <;> with_reducible rfl)
        try simp only [Act.put, List.setIfInBounds_toArray, List.set_cons_zero, List.set_cons_succ]
        refine lat_take 5 (v := ?_) rfl (by kernel_rfl) (by kernel_rfl) (by kernel_rfl) (by kernel_rfl) (fun _ _ _ h => h) (by rfl) ?_ (by assumption) ?_
        rotate_left
        · (intro w hSw; obtain ⟨zh, zx, zb⟩ := hSw; obtain ⟨z0, z1, z2, z3, z4, z5⟩ := box_cells zh; clear zh zb; simp only at z0 z1 z2 z3 z4 z5; go_simp <;> with_reducible rfl)
        try simp only [Act.put, List.setIfInBounds_toArray, List.set_cons_zero, List.set_cons_succ]
        refine lat_take 6 (v := ?_) rfl (by kernel_rfl) (by kernel_rfl) (by kernel_rfl) (by kernel_rfl) (fun _ _ _ h => h) (by rfl) ?_ (by assumption) ?_
        rotate_left
        · (intro w hSw; obtain ⟨zh, zx, zb⟩ := hSw; obtain ⟨z0, z1, z2, z3, z4, z5⟩ := box_cells zh; clear zh zb; simp only at z0 z1 z2 z3 z4 z5; go_simp <;> with_reducible rfl)
        try simp only [Act.put, List.setIfInBounds_toArray, List.set_cons_zero, List.set_cons_succ]
        refine lat_one 7 rfl (by kernel_rfl) (by decide) (by rfl) (fun K hK => ?_)
        refine wp_store_row 87 _ _ rfl w.heap.size (Rc.cells ⟨hk, s1, hv, s2, T, O⟩) rfl rfl 87 (Rc.cells ⟨hk, s1, hv, s2, T, O⟩) hHeld.1 Tryd.info87 rfl (rc_one _) ?_
        refine hK.out _ _ (sd_setRow hHeld (Nat.le_refl _) (Nat.lt_succ_self _)) (fun hHeld2 => ?_)
        clear hK hHeld
        try simp only [Act.put, List.setIfInBounds_toArray, List.set_cons_zero, List.set_cons_succ]
        refine lat_take 8 (v := ?_) rfl (by kernel_rfl) (by kernel_rfl) (by kernel_rfl) (by kernel_rfl) (fun _ _ _ h => h) (by rfl) ?_ (by assumption) ?_
        rotate_left
        · (intro w hSw; obtain ⟨zh, zx, zb⟩ := hSw; obtain ⟨z0, z1, z2, z3, z4, z5⟩ := box_cells zh; clear zh zb; simp only at z0 z1 z2 z3 z4 z5; go_simp <;> with_reducible rfl)
        try simp only [Act.put, List.setIfInBounds_toArray, List.set_cons_zero, List.set_cons_succ]
        refine lat_last 9 rfl (by kernel_rfl) (by decide) (by kernel_rfl) (by rfl) (fun K hK => ?_)
        go_simp
        refine hK.out _ _ ?_
        clear hK
        try simp only [Act.put, List.setIfInBounds_toArray, List.set_cons_zero, List.set_cons_succ]
        go_wp2_with fail
        refine bodyPost_ret (v := .tuple #[.agg (Rc.cells ⟨hk, s1, hv, s2, T, O⟩), .int .i64 ((l.length - q4.length : Nat) : Int), .int .i64 0]) ?_ rfl ⟨rfl, hHeld2.2.2⟩
        exact results_rec (p := 4) (u := 5) (u2 := 6) (by rfl) _ _ w.heap.size ⟨hk, s1, hv, s2, T, O⟩ _ _ (by rfl) (by rfl) (by rfl) hHeld2.1
      · have hRR : R = .tuple #[.agg rz.cells, .int .i64 0, .int .i64 10] := by rw [HR.out, if_neg (fun q => hcc q.2)]
        subst hRR
        have hne : (cc != 0) = true := by rw [bne_iff_ne]; exact hcc
        clear HR hq4 hcc
        go_enter Tryd.func104, Tryd.ntmps104
        go_wp2_with (first
      | (go_at_call 105; refine (HI.out _).mono ?_; rintro e w2 ⟨rfl, hw⟩; subst w2)
      | (go_at_call 111; have _t := tok1; refine (HN0.out _ _ HD.out).mono ?_; clear tok1 _t; rintro e w1 ⟨rfl, hD1⟩; have HD1 : Hid _ := hD1; obtain ⟨e0, e1, e2, e3, e4, e5, ef⟩ := DS.cells hD1; simp only at e0 e1 e2 e3 e4 e5; clear hD1)
      | (go_at_call 111; refine (HN1.out _ _ (DS.put HD1.out 5 _ ⟨hk, ⟨#[]⟩, hv, ⟨#[]⟩, 0, O⟩ rfl)).mono ?_; clear HD1 e0 e1 e2 e3 e4 e5 ef; rintro e w2 ⟨rfl, hD2⟩; have HD2 : Hid _ := hD2; obtain ⟨e0, e1, e2, e3, e4, e5, ef⟩ := DS.cells hD2; simp only at e0 e1 e2 e3 e4 e5; clear hD2)
      | (go_at_call 112; refine (HZ.out _).mono ?_; rintro e w3 ⟨rfl, hw⟩; subst w3)
      | (go_at_call 113; have _t := tok2; refine (HT1.out _ _ (DS.put HD2.out 4 _ ⟨hk, ⟨#[]⟩, hv, ⟨#[]⟩, T, O⟩ rfl)).mono ?_; clear tok2 _t HD2 e0 e1 e2 e3 e4 e5 ef; rintro e w4 ⟨rfl, hD3⟩; have HD3 : Hid _ := hD3; obtain ⟨e0, e1, e2, e3, e4, e5, ef⟩ := DS.cells hD3; simp only at e0 e1 e2 e3 e4 e5; clear hD3)
      | (go_at_call 113; refine (HT2.out _ _ (DS.put HD3.out 1 _ ⟨hk, s1, hv, ⟨#[]⟩, T, O⟩ rfl)).mono ?_; clear HD3 e0 e1 e2 e3 e4 e5 ef; rintro e w5 ⟨rfl, hD4⟩; have HD5 : Hid _ := DS.put hD4 3 (.string s2) ⟨hk, s1, hv, s2, T, O⟩ rfl; obtain ⟨e0, e1, e2, e3, e4, e5, ef⟩ := DS.cells hD4; have hB1 := hD4.rd.c1; have hBB := hD4.rb; simp only at e0 e1 e2 e3 e4 e5; clear hD4)
      | (go_at_call 102; refine (HC.out _).mono ?_; rintro e w6 ⟨rfl, hb6⟩; have HX : Hid _ := ds_after HD5.out hb6 hM)
      | (have _t := HX; refine wpList_store_row rfl 87 _ _ rfl w.heap.size rz.cells rfl rfl 87 (Rc.cells ⟨hk, s1, hv, s2, T, O⟩) HX.out.1 Tryd.info87 rfl (rc_one _) ?_))
        refine bodyPost_ret (v := .tuple #[.agg rz.cells, .int .i64 0, .int .i64 10]) ?_ rfl ⟨rfl, ?_⟩
        · exact results_rec (p := 4) (u := 5) (u2 := 6) (by rfl) _ _ w.heap.size rz _ _ (by rfl) (by rfl) (by rfl) (setRow_heap _ _ _ _ _ _ HX.out.1)
        · exact below_setRow HX.out.2 (Nat.le_refl _) _
    · have hRR : R = .tuple #[.agg rz.cells, .int .i64 0, .int .i64 10] := by rw [HR.out, if_neg (fun q => by cases q.1)]
      subst hRR
      clear HR hq4
      go_enter Tryd.func104, Tryd.ntmps104
      go_wp2_with (first
      | (go_at_call 105; refine (HI.out _).mono ?_; rintro e w2 ⟨rfl, hw⟩; subst w2)
      | (go_at_call 111; have _t := tok1; refine (HN0.out _ _ HD.out).mono ?_; clear tok1 _t; rintro e w1 ⟨rfl, hD1⟩; have HD1 : Hid _ := hD1; obtain ⟨e0, e1, e2, e3, e4, e5, ef⟩ := DS.cells hD1; simp only at e0 e1 e2 e3 e4 e5; clear hD1)
      | (go_at_call 111; refine (HN1.out _ _ (DS.put HD1.out 5 _ ⟨hk, ⟨#[]⟩, hv, ⟨#[]⟩, 0, O⟩ rfl)).mono ?_; clear HD1 e0 e1 e2 e3 e4 e5 ef; rintro e w2 ⟨rfl, hD2⟩; have HD2 : Hid _ := hD2; obtain ⟨e0, e1, e2, e3, e4, e5, ef⟩ := DS.cells hD2; simp only at e0 e1 e2 e3 e4 e5; clear hD2)
      | (go_at_call 112; refine (HZ.out _).mono ?_; rintro e w3 ⟨rfl, hw⟩; subst w3)
      | (go_at_call 113; have _t := tok2; refine (HT1.out _ _ (DS.put HD2.out 4 _ ⟨hk, ⟨#[]⟩, hv, ⟨#[]⟩, T, O⟩ rfl)).mono ?_; clear tok2 _t HD2 e0 e1 e2 e3 e4 e5 ef; rintro e w4 ⟨rfl, hD3⟩; have HD3 : Hid _ := hD3; obtain ⟨e0, e1, e2, e3, e4, e5, ef⟩ := DS.cells hD3; simp only at e0 e1 e2 e3 e4 e5; clear hD3)
      | (go_at_call 113; refine (HT2.out _ _ (DS.put HD3.out 1 _ ⟨hk, s1, hv, ⟨#[]⟩, T, O⟩ rfl)).mono ?_; clear HD3 e0 e1 e2 e3 e4 e5 ef; rintro e w5 ⟨rfl, hD4⟩; have HD5 : Hid _ := DS.put hD4 3 (.string s2) ⟨hk, s1, hv, s2, T, O⟩ rfl; obtain ⟨e0, e1, e2, e3, e4, e5, ef⟩ := DS.cells hD4; have hB1 := hD4.rd.c1; have hBB := hD4.rb; simp only at e0 e1 e2 e3 e4 e5; clear hD4)
      | (have _t := HD5; refine wpList_store_row rfl 87 _ _ rfl w.heap.size rz.cells rfl rfl 87 (Rc.cells ⟨hk, s1, hv, s2, T, O⟩) HD5.out.box Tryd.info87 rfl (rc_one _) ?_))
      refine bodyPost_ret (v := .tuple #[.agg rz.cells, .int .i64 0, .int .i64 10]) ?_ rfl ⟨rfl, ?_⟩
      · exact results_rec (p := 4) (u := 5) (u2 := 6) (by rfl) _ _ w.heap.size rz _ _ (by rfl) (by rfl) (by rfl) (setRow_heap _ _ _ _ _ _ HD5.out.box)
      · exact below_setRow HD5.out.bel (Nat.le_refl _) _
theorem zero_box (w : World) : (w.alloc (.cells rz.cells 87)).heap[w.heap.size]? = some (.cells rz.cells 87 (0, 0)) := heap_alloc_new w _
set_option maxRecDepth 100000 in
theorem decode_no (a : Option Addr) (cap : Nat) (l : List Nat) (first : Int) (w : World) (hr : Row w a l) (hl : l.length ≤ cap) (hc : cap ≤ maxLen) (hg : gate l first = false) :
    Calls Tryd.prog 104 #[.slice a l.length cap, .int .i64 first] w fun e w' => e = .returned (.tuple #[.agg rz.cells, .int .i64 0, .int .i64 10]) ∧ Below w.heap.size w w' := by
  have HI : Hid _ := isTime_any first
  unfold maxLen at hc
  by_cases ht : timeB first = true
  · rw [ht] at HI
    by_cases h0 : 0 < l.length
    · have h3 : 3 < l.getD 0 0 := by
        simp only [gate, ht, Bool.true_and, Bool.and_eq_false_iff, decide_eq_false_iff_not] at hg
        omega
      obtain ⟨b, off, rfl, hc0, hlt⟩ := hr 0 h0
      rw [Nat.add_zero] at hc0
      clear hr hg
      generalize l.getD 0 0 = c at *
      have hbw : b < w.heap.size := World.block_lt_of_cell? _ _ hc0
      have h0I : ((l.length : Int) == 0) = false := by rw [beq_eq_false_iff_ne]; omega
      have h0J : (0 : Int) < (l.length : Int) := by omega
      have h3I : (3 : Int) < (c : Int) := by omega
      go_enter Tryd.func104, Tryd.ntmps104
      go_wp2_with (first
        | (go_at_call 105; refine (HI.out _).mono ?_; rintro e w2 ⟨rfl, hw⟩; subst w2)
        | (refine wpList_store_row rfl 87 _ _ rfl w.heap.size rz.cells rfl rfl 87 rz.cells (zero_box w) Tryd.info87 rfl (rc_one _) ?_))
      refine bodyPost_ret (v := .tuple #[.agg rz.cells, .int .i64 0, .int .i64 10]) ?_ rfl ⟨rfl, ?_⟩
      · exact results_rec (p := 4) (u := 5) (u2 := 6) (by rfl) _ _ w.heap.size rz _ _ (by rfl) (by rfl) (by rfl) (setRow_heap _ _ _ _ _ _ (zero_box w))
      · exact below_setRow (below_box _) (Nat.le_refl _) _
    · have h0I : l.length = 0 := by omega
      rw [h0I]
      clear hr hg
      go_enter Tryd.func104, Tryd.ntmps104
      go_wp2_with (first
        | (go_at_call 105; refine (HI.out _).mono ?_; rintro e w2 ⟨rfl, hw⟩; subst w2)
        | (refine wpList_store_row rfl 87 _ _ rfl w.heap.size rz.cells rfl rfl 87 rz.cells (zero_box w) Tryd.info87 rfl (rc_one _) ?_))
      refine bodyPost_ret (v := .tuple #[.agg rz.cells, .int .i64 0, .int .i64 10]) ?_ rfl ⟨rfl, ?_⟩
      · exact results_rec (p := 4) (u := 5) (u2 := 6) (by rfl) _ _ w.heap.size rz _ _ (by rfl) (by rfl) (by rfl) (setRow_heap _ _ _ _ _ _ (zero_box w))
      · exact below_setRow (below_box _) (Nat.le_refl _) _
  · have ht' : timeB first = false := by simpa using ht
    rw [ht'] at HI
    clear hr hg ht
    go_enter Tryd.func104, Tryd.ntmps104
    go_wp2_with (first
      | (go_at_call 105; refine (HI.out _).mono ?_; rintro e w2 ⟨rfl, hw⟩; subst w2)
      | (refine wpList_store_row rfl 87 _ _ rfl w.heap.size rz.cells rfl rfl 87 rz.cells (zero_box w) Tryd.info87 rfl (rc_one _) ?_))
    refine bodyPost_ret (v := .tuple #[.agg rz.cells, .int .i64 0, .int .i64 10]) ?_ rfl ⟨rfl, ?_⟩
    · exact results_rec (p := 4) (u := 5) (u2 := 6) (by rfl) _ _ w.heap.size rz _ _ (by rfl) (by rfl) (by rfl) (setRow_heap _ _ _ _ _ _ (zero_box w))
    · exact below_setRow (below_box _) (Nat.le_refl _) _
theorem wr64 (n : Int) : IntKind.i64.wrap n = wrap64 n := by rw [IntKind.wrap_i64]; unfold wrap64; omega
theorem gate_parts {l : List Nat} {first : Int} (h : gate l first = true) : timeB first = true ∧ 0 < l.length ∧ l.getD 0 0 ≤ 3 := by
  simp only [gate, Bool.and_eq_true, decide_eq_true_eq] at h
  exact ⟨h.1.1, h.1.2, h.2⟩
theorem decode_any (a : Option Addr) (cap : Nat) (l : List Nat) (first : Int) (w : World) (hr : Row w a l) (hl : l.length ≤ cap) (hc : cap ≤ maxLen) :
    Calls Tryd.prog 104 #[.slice a l.length cap, .int .i64 first] w fun e w' => e = .returned (.tuple #[.agg (decR l first).cells, .int .i64 ((decN l first : Nat) : Int), .int .i64 (decE l first)]) ∧ Below w.heap.size w w' := by
  by_cases hg : gate l first = true
  · obtain ⟨ht, h0, h3⟩ := gate_parts hg
    have hlt := hr.lt 0
    have HD := ds_start (hkOf l) (hvOf l) hr h0 hl hc
    obtain ⟨b, off, rfl, hc0, _⟩ := hr 0 h0
    rw [Nat.add_zero] at hc0
    have hk1 : (bits .and .u8 ((l.getD 0 0 : Nat) : Int) 1 != 0) = hkOf l := by
      rw [u8_and1 _ (by omega)]
      unfold hkOf
      generalize l.getD 0 0 = c at *
      rw [Bool.eq_iff_iff]
      simp
      omega
    have hv1 : (bits .and .u8 ((l.getD 0 0 : Nat) : Int) 2 != 0) = hvOf l := by
      rw [u8_and2 _ (by omega)]
      unfold hvOf
      generalize l.getD 0 0 = c at *
      rw [Bool.eq_iff_iff]
      simp
      omega
    have HI : ∀ w', Calls Tryd.prog 105 #[.int .i64 first] w' fun e w2 => e = .returned (.bool true) ∧ w2 = w' := by
      have := isTime_any first
      rw [ht] at this
      exact this
    refine decode_in b off cap l first w (l.getD 0 0) hc0 h0 hl (by unfold maxLen at hc; exact hc) h3 (hkOf l) (hvOf l) hk1 hv1 _ rfl HI (p0 l) (p1 l) (p2 l) (p3 l) (p4 l) (numV (p0 l)) (numV (p1 l)) (zag (numV (p1 l))) (wrap64 (first + zag (numV (p1 l)))) (wrap64 (numV (p0 l)))
      (numN (p0 l) == 0) (b2 l) (txB (hkOf l) (p2 l) (b2 l)) (badAt l) (strN (txV (hkOf l) (p2 l))) (strN (txV (hvOf l) (p3 l))) HD ?_ ?_ ?_ ?_ ?_ (wr64 _) (wr64 _) (chk (rcOf l first)) (check_any (rcOf l first)) _ ?_ (by have := p4_len l; omega)
    · intro w' r h
      have := number_ds h
      rw [Bool.false_or] at this
      exact this
    · intro w' r h
      exact number_ds h
    · intro w'
      exact zag_any _ w' (by omega) (by have := numV_le (p1 l); omega)
    · intro w' r h
      exact rtx_ds h _
    · intro w' r h
      exact rtx_ds h _
    · show _ = _
      unfold decR decN decE okD
      rw [hg, Bool.true_and]
      by_cases hb : badAt l = false ∧ chk (rcOf l first) = 0
      · rw [if_pos hb, hb.1, hb.2]
        rfl
      · rw [if_neg hb]
        have : (!badAt l && chk (rcOf l first) == 0) = false := by
          cases h1 : badAt l
          · have : ¬ chk (rcOf l first) = 0 := fun c => hb ⟨h1, c⟩
            simpa using this
          · rfl
        rw [this]
        rfl
  · have hg' : gate l first = false := by simpa using hg
    have e : okD l first = false := by unfold okD; rw [hg']; rfl
    unfold decR decN decE
    rw [e]
    exact decode_no a cap l first w hr hl hc hg'
end Go.Proofs.YtaooidckmepdeaaDoor
namespace Go.Proofs.YtaooidckmepdeaaDoor
set_option linter.unusedSimpArgs false
set_option linter.unusedVariables false
open Go.ChangeShapes Go.WideShapes Go.ChangeAt Go.RowKit
/-- The bytes of a slice that came in. -/
def Came (w : World) (a : Option Addr) (cap : Nat) (l : List Nat) : Prop := Row w a l ∧ l.length ≤ cap ∧ cap ≤ maxLen ∧ l.length ≤ 140737488351232 ∧ (a = none → cap = 0)
theorem cells87 : Tryd.prog.cellsOf 87 = 6 := by kernel_rfl
theorem cells3 : Tryd.prog.cellsOf 3 = 1 := by kernel_rfl
theorem cells4 : Tryd.prog.cellsOf 4 = 1 := by kernel_rfl
theorem cells9 : Tryd.prog.cellsOf 9 = 1 := by kernel_rfl
theorem array6 {α : Type} {cs : Array α} (h : cs.size = 6) : ∃ c0 c1 c2 c3 c4 c5, cs = #[c0, c1, c2, c3, c4, c5] := by
  obtain ⟨l⟩ := cs
  match l, h with
  | [c0, c1, c2, c3, c4, c5], _ => exact ⟨c0, c1, c2, c3, c4, c5, rfl⟩
def RcOk (r : Rc) : Prop := (Lit.int .i64 r.t).wf = true ∧ (Lit.int .i64 r.o).wf = true ∧ r.k.size ≤ maxLen ∧ r.v.size ≤ maxLen
set_option maxRecDepth 100000 in
theorem rec_of {H : Type} {enc : TypeId × Value → H} {W : World} {r : Reach} {base b0 : Nat} {sp : Nat → Bool} {held : Bool} {v : Value} {d : DataW H} {p : List MemPlace}
    (hv : Value.okWide Tryd.prog W r b0 87 v) (h : DataW.Trod enc Tryd.prog W base sp held 87 v d p) : ∃ q : Rc, v = .agg q.cells ∧ RcOk q := by
  obtain ⟨cs, rfl, hsz⟩ := okWide_struct Tryd.underlying87 hv
  obtain ⟨c0, c1, c2, c3, c4, c5, rfl⟩ := array6 (hsz.trans cells87)
  obtain ⟨fuel, hf⟩ := h
  obtain ⟨xs, k, hk, hxy, _, hxl, hg⟩ := DataW.trod_struct Tryd.underlying87 hf
  match xs, hxl with
  | [y0, y1, y2, y3, y4, y5], _ =>
    have g0 := hg 0 _ rfl
    have g1 := hg 1 _ rfl
    have g2 := hg 2 _ rfl
    have g3 := hg 3 _ rfl
    have g4 := hg 4 _ rfl
    have g5 := hg 5 _ rfl
    simp [cells3, cells4, cells9, Value.cells] at g0 g1 g2 g3 g4 g5
    obtain ⟨n0, q0, _⟩ := DataW.trod_bool Tryd.underlying4 g0
    obtain ⟨n1, q1, _, w1⟩ := DataW.trod_string Tryd.underlying9 g1
    obtain ⟨n2, q2, _⟩ := DataW.trod_bool Tryd.underlying4 g2
    obtain ⟨n3, q3, _, w3⟩ := DataW.trod_string Tryd.underlying9 g3
    obtain ⟨n4, q4, _, w4⟩ := DataW.trod_int Tryd.underlying3 g4
    obtain ⟨n5, q5, _, w5⟩ := DataW.trod_int Tryd.underlying3 g5
    simp at q0 q1 q2 q3 q4 q5
    subst q0; subst q1; subst q2; subst q3; subst q4; subst q5
    exact ⟨⟨n0, n1, n2, n3, n4, n5⟩, rfl, ⟨w4, w5, w1, w3⟩⟩
end Go.Proofs.YtaooidckmepdeaaDoor
namespace Go.Proofs.YtaooidckmepdeaaDoor
set_option linter.unusedSimpArgs false
set_option linter.unusedVariables false
open Go.RowKit
theorem enc_no {r : Rc} {first : Int} (h : ¬ encE r first = 0) : encR r first = [] := by unfold encR; rw [if_neg h]
theorem enc_ok {r : Rc} {first : Int} (h : encE r first = 0) : encR r first = encL r first ∧ chk r = 0 ∧ timeB first = true := by
  refine ⟨by unfold encR; rw [if_pos h], ?_⟩
  unfold encE at h
  by_cases hc : chk r = 0
  · rw [if_pos hc] at h
    by_cases ht : timeB first = true
    · exact ⟨hc, ht⟩
    · rw [if_neg ht] at h; omega
  · rw [if_neg hc] at h; exact absurd h hc
theorem encL_lt (r : Rc) (first : Int) (h : chk r = 0) (hf : timeB first = true) : ∀ i, (encL r first).getD i 0 < 256 := by
  obtain ⟨t0, t1, o0, o1, k1, v1, _, _⟩ := chk_ok h
  unfold encL
  rw [show headN r :: (groups r.o.toNat ++ (groups (zig (r.t - first)).toNat ++ (textL r.hk r.k ++ textL r.hv r.v))) = [headN r] ++ (groups r.o.toNat ++ (groups (zig (r.t - first)).toNat ++ (textL r.hk r.k ++ textL r.hv r.v))) from rfl]
  obtain ⟨f0, f1⟩ := (time_iff first).1 hf
  have hz := zig_bd (r.t - first) (by omega) (by omega)
  refine app_lt ?_ (app_lt (groups_lt _ (by omega)) (app_lt (groups_lt _ (by omega)) (app_lt (text_lt _ _ k1) (text_lt _ _ v1))))
  intro i
  match i with
  | 0 => exact headN_lt r
  | i + 1 => simp
theorem big_no {r : Rc} (first : Int) (h : ¬ (r.k.size ≤ 2000 ∧ r.v.size ≤ 2000)) : ¬ encE r first = 0 := fun c => h ⟨(chk_ok (enc_ok c).2.1).2.2.2.2.1, (chk_ok (enc_ok c).2.1).2.2.2.2.2.1⟩
theorem app_some {B : Nat} {w : World} {v : Value} {L m M : List Nat} (h : w.ownsRow B 5 1 v (L.length + m.length) (cv L ++ cv m)) (h0 : 0 < L.length) (hM : M = L ++ m) : ∃ g cap, v = .slice (some ⟨g, 0, none⟩) M.length cap ∧ Own B w g cap M := by
  subst hM
  rw [← List.length_append, ← cv_append] at h
  exact owns_some h (by simp; omega)
theorem box_free {w y : World} {cs : Array Value} {t : TypeId} (hb : Below (w.alloc (.cells cs t)).heap.size (w.alloc (.cells cs t)) y) : ∀ i, y.frozen? ⟨w.heap.size, i, none⟩ = false := by
  intro i
  have h := hb.block w.heap.size (by simp)
  have h2 : (w.alloc (.cells cs t)).heap[w.heap.size]? = some (.cells cs t (0, 0)) := heap_alloc_new w _
  rw [h2] at h
  simp [World.frozen?, h]
theorem encL_pos (r : Rc) (first : Int) : 0 < (encL r first).length := by simp [encL]
end Go.Proofs.YtaooidckmepdeaaDoor
namespace Go.Proofs.YtaooidckmepdeaaDoor
set_option linter.unusedSimpArgs false
set_option linter.unusedVariables false
open Go.RowKit
theorem uv_canon (l : List Nat) : ∀ (i v : Nat), i ≤ 9 → (∀ x, x ∈ l → x < 256) → (uv l i v).2 ≠ 0 → ∃ V t, l = vr (9 - i) V ++ t ∧ (uv l i v).1 = v + V * 128 ^ i ∧ (uv l i v).2 = i + (vr (9 - i) V).length ∧ (0 < i → V ≠ 0) := by
  induction l with
  | nil => intro i v _ _ h; exact absurd rfl h
  | cons c r ih =>
    intro i v hi hl h
    rw [uv_cons] at h ⊢
    have hc : c < 256 := hl c (by simp)
    by_cases h9 : i = 9 ∧ 1 < c
    · rw [if_pos h9] at h; exact absurd rfl h
    rw [if_neg h9] at h ⊢
    by_cases h128 : 128 ≤ c
    · rw [if_pos h128] at h ⊢
      have hi9 : i < 9 := by omega
      obtain ⟨V, t, e1, e2, e3, e4⟩ := ih (i + 1) _ (by omega) (fun x hx => hl x (by simp [hx])) h
      have hV := e4 (by omega)
      have ef : 9 - i = (9 - (i + 1)) + 1 := by omega
      have ev : vr (9 - i) (c % 128 + 128 * V) = c :: vr (9 - (i + 1)) V := by
        rw [ef]
        simp only [vr]
        rw [if_neg (by omega)]
        have a1 : (c % 128 + 128 * V) % 128 + 128 = c := by omega
        have a2 : (c % 128 + 128 * V) / 128 = V := by omega
        rw [a1, a2]
      refine ⟨c % 128 + 128 * V, t, by rw [ev, List.cons_append, ← e1], ?_, by rw [e3, ev, List.length_cons]; omega, by omega⟩
      rw [e2, Nat.pow_succ, Nat.add_mul]
      have : V * (128 ^ i * 128) = 128 * V * 128 ^ i := by
        rw [Nat.mul_comm (128 ^ i), ← Nat.mul_assoc, Nat.mul_comm V]
      omega
    · rw [if_neg h128] at h ⊢
      by_cases h0 : c = 0 ∧ 0 < i
      · rw [if_pos h0] at h; exact absurd rfl h
      rw [if_neg h0]
      have ev : vr (9 - i) c = [c] := by
        generalize 9 - i = f
        cases f <;> simp [vr] <;> omega
      refine ⟨c, r, by rw [ev]; rfl, ?_, by rw [ev]; rfl, by omega⟩
      rw [Nat.mod_eq_of_lt (by omega : c < 128)]
theorem num_canon {l : List Nat} (hl : ∀ x, x ∈ l → x < 256) (h : numN l ≠ 0) : l = groups (numV l) ++ l.drop (numN l) ∧ numN l = (groups (numV l)).length := by
  obtain ⟨V, t, e1, e2, e3, _⟩ := uv_canon l 0 0 (by omega) hl h
  have hV : numV l = V := by unfold numV; rw [e2]; simp
  have hN : numN l = (groups V).length := by unfold numN; rw [e3]; simp [groups]
  rw [hV, hN]
  refine ⟨?_, rfl⟩
  have : l = groups V ++ t := e1
  rw [this, List.drop_left]
theorem sb_strN (l : List Nat) (h : ∀ x, x ∈ l → x < 256) : sb (strN l) = l := by
  unfold sb strN
  rw [strOfNums_data, List.map_map, List.map_map]
  conv => rhs; rw [← List.map_id l]
  apply List.map_congr_left
  intro a ha
  have := h a ha
  simp
  omega
theorem tx_canon {q : List Nat} (hq : ∀ x, x ∈ q → x < 256) (h : okT q = true) : q = textL true (strN (txV true q)) ++ txL true q := by
  obtain ⟨_, e2, e3, _, e5⟩ := ok_tx h false
  have hn : numN q ≠ 0 := by
    simp only [okT, Bool.and_eq_true, Bool.not_eq_true', decide_eq_true_eq] at h
    simpa using h.1.1
  obtain ⟨c1, c2⟩ := num_canon hq hn
  have hl : (txV true q).length = numV q := by rw [e2, List.length_take, List.length_drop]; omega
  unfold textL
  rw [if_pos rfl, strN_size, hl, sb_strN _ (fun x hx => by rw [e2] at hx; exact hq x (List.mem_of_mem_drop (List.mem_of_mem_take hx))), e2, e3, ← List.drop_drop, List.append_assoc, List.take_append_drop]
  exact c1
theorem zig_zag (V : Nat) : zig (zag V) = V := by unfold zag zig; split <;> split <;> omega
theorem head_canon (c : Nat) (h : c ≤ 3) : headB (c % 2 == 1) (c / 2 == 1) = c := by
  match c, h with
  | 0, _ => rfl
  | 1, _ => rfl
  | 2, _ => rfl
  | 3, _ => rfl
/-- Decode reads what Encode writes. -/
theorem dec_canon {l : List Nat} {first : Int} (hl : ∀ x, x ∈ l → x < 256) (h : okD l first = true) : l = encL (rcOf l first) first ++ l.drop (decN l first) ∧ chk (rcOf l first) = 0 ∧ decN l first = (encL (rcOf l first) first).length := by
  have h0 := h
  unfold okD at h
  simp only [Bool.and_eq_true, Bool.not_eq_true', beq_iff_eq, gate, decide_eq_true_eq] at h
  obtain ⟨⟨⟨⟨ht, hlen⟩, h3⟩, _⟩, hc⟩ := h
  obtain ⟨f0, f1⟩ := (time_iff first).1 ht
  obtain ⟨n0, v0, n1, t0, t1, k, v⟩ := reads_of f0 f1 h0
  have m0 : ∀ x, x ∈ p0 l → x < 256 := fun x hx => hl x (List.mem_of_mem_drop hx)
  have m1 : ∀ x, x ∈ p1 l → x < 256 := fun x hx => m0 x (List.mem_of_mem_drop hx)
  have m2 : ∀ x, x ∈ p2 l → x < 256 := fun x hx => m1 x (List.mem_of_mem_drop hx)
  have c0 := (num_canon m0 n0).1
  have c1 := (num_canon m1 n1).1
  have z := zag_bd (numV (p1 l)) (numV_le _)
  have eo : (rcOf l first).o.toNat = numV (p0 l) := by
    simp only [rcOf]
    rw [w64 _ (by omega) (by omega)]
    omega
  have et : zig ((rcOf l first).t - first) = numV (p1 l) := by
    simp only [rcOf]
    rw [w64 _ (by omega) (by omega), show first + zag (numV (p1 l)) - first = zag (numV (p1 l)) by omega, zig_zag]
  have c2 : p2 l = textL (hkOf l) (strN (txV (hkOf l) (p2 l))) ++ p3 l := by
    unfold p3
    cases hk : hkOf l
    · simp [textL, txL]
    · exact tx_canon m2 (k hk)
  have m3 : ∀ x, x ∈ p3 l → x < 256 := fun x hx => m2 x (by rw [c2]; exact List.mem_append_right _ hx)
  have c3 : p3 l = textL (hvOf l) (strN (txV (hvOf l) (p3 l))) ++ p4 l := by
    unfold p4
    cases hv : hvOf l
    · simp [textL, txL]
    · exact tx_canon m3 (v hv)
  have eh : l = headN (rcOf l first) :: p0 l := by
    match l, hlen with
    | c :: r, _ =>
      have : headN (rcOf (c :: r) first) = c := head_canon c h3
      rw [this]
      rfl
  have key : l = encL (rcOf l first) first ++ p4 l := by
    conv => lhs; rw [eh]
    unfold encL
    rw [eo, et, List.cons_append]
    congr 1
    conv => lhs; rw [c0]
    rw [List.append_assoc]
    congr 1
    show p1 l = _
    conv => lhs; rw [c1]
    rw [List.append_assoc]
    have e : ((numV (p1 l) : Nat) : Int).toNat = numV (p1 l) := by omega
    rw [e]
    congr 1
    show p2 l = _
    conv => lhs; rw [c2]
    rw [List.append_assoc]
    congr 1
  have hN : decN l first = l.length - (p4 l).length := by unfold decN; rw [if_pos h0]
  have hL : decN l first = (encL (rcOf l first) first).length := by
    have := congrArg List.length key
    rw [List.length_append] at this
    omega
  refine ⟨?_, hc, hL⟩
  have hd := congrArg (List.drop (encL (rcOf l first) first).length) key
  rw [List.drop_left] at hd
  rw [hL, hd]
  exact key
end Go.Proofs.YtaooidckmepdeaaDoor
namespace Go.Proofs.YtaooidckmepdeaaDoor
set_option linter.unusedSimpArgs false
set_option linter.unusedVariables false
open Go.RowKit
theorem bytes_any (a : Option Addr) (capa : Nat) (l : List Nat) (b : Option Addr) (capb : Nat) (m : List Nat) (w : World) (ha : Row w a l) (hb : Row w b m) (hl : l.length ≤ maxLen) (hm : m.length ≤ maxLen) :
    Calls Tryd.prog 13 #[.slice a l.length capa, .slice b m.length capb] w fun e w' => e = .returned (.bool (decide (l = m))) ∧ ∃ n, w' = w.drewN n := by
  unfold maxLen at hl hm
  by_cases hlen : l.length = m.length
  · have hne : ((l.length : Int) != (m.length : Int)) = false := by simp [hlen]
    have HL : Hid (l.length = m.length) := hlen
    clear hlen
    go_enter Tryd.func13, Tryd.ntmps13
    go_wp2
    go_loopw [5] (fun i wr => ∃ k n : Nat, k ≤ l.length ∧ i = .int .i64 k ∧ wr = w.drewN n ∧ ∀ j, j < k → l.getD j 0 = m.getD j 0) (fun i _ => l.length - (iof i).toNat)
    case atStart => exact ⟨0, 0, by omega, rfl, rfl, by intro j hj; omega⟩
    case round =>
      obtain ⟨k, n, hk, rfl, rfl, hsame⟩ := hrel
      have HS : Hid (∀ j, j < k → l.getD j 0 = m.getD j 0) := hsame
      clear hsame
      by_cases hlt : k < l.length
      · obtain ⟨b1, o1, rfl, c1, l1⟩ := ha k hlt
        obtain ⟨b2, o2, rfl, c2, l2⟩ := hb k (by rw [← HL.out]; exact hlt)
        have hltm : k < m.length := by rw [← HL.out]; exact hlt
        have HQ : Hid (l.getD k 0 = m.getD k 0 → ∀ j, j < k + 1 → l.getD j 0 = m.getD j 0) := by
          intro e j hj
          by_cases hjk : j = k
          · subst hjk; exact e
          · exact HS.out j (by omega)
        have HD : Hid (l.getD k 0 ≠ m.getD k 0 → l ≠ m) := by intro e c; rw [c] at e; exact e rfl
        clear ha hb
        have hltI : (k : Int) < (l.length : Int) := by omega
        have hltJ : (k : Int) < (m.length : Int) := by omega
        generalize l.getD k 0 = x at *
        generalize m.getD k 0 = y at *
        go_wp2
        go_quiet (fail)
        go_wp2
        · have hxy : ((x : Int) != (y : Int)) = true := by assumption
          go_ret
          exact ⟨retB (decide_eq_false (HD.out (by rw [bne_iff_ne] at hxy; omega))).symm, n + nq, World.drewN_drewN _ _ _⟩
        · have hxy : ((x : Int) != (y : Int)) = false := by assumption
          have hxy2 : x = y := by have := WalkArith.int_eq' hxy; omega
          exact ⟨⟨k + 1, n + nq, by omega, by go_num, rfl, HQ.out hxy2⟩, by simp [iof]; omega⟩
      · go_wp2
        go_ret
        refine ⟨retB (decide_eq_true ?_).symm, n, rfl⟩
        exact list_ext HL.out (fun i hi => HS.out i (by omega))
  · have hne : ((l.length : Int) != (m.length : Int)) = true := by rw [bne_iff_ne]; omega
    have HL : Hid (l ≠ m) := fun c => hlen (by rw [c])
    go_enter Tryd.func13, Tryd.ntmps13
    go_wp2
    go_ret
    exact ⟨retB (decide_eq_false HL.out).symm, 0, rfl⟩
theorem getD_set (l : List Nat) (i j c : Nat) (h : j < l.length) : (l.set i c).getD j 0 = if i = j then c else l.getD j 0 := by
  simp only [List.getD, List.getElem?_set]
  by_cases e : i = j
  · subst e; simp [h]
  · simp [e]
theorem round_any (k : Int) (n : Nat) (w : World) (h1 : -9223372036854775808 ≤ k) (h2 : k ≤ 9223372036854775807) (hn : 1 ≤ n) (hn2 : n ≤ 1000000) :
    Calls Tryd.prog 20 #[.int .i64 k, .int .i64 (n : Int)] w fun e w' => e = .returned (.int .i64 (((k % (n : Int)).toNat : Nat) : Int)) ∧ w' = w := by
  have hnI : (1 : Int) ≤ (n : Int) := by omega
  have hnJ : (n : Int) ≤ 1000000 := by omega
  have hn0 : ((n : Int) == 0) = false := by simp; omega
  have hne : (n : Int) ≠ 0 := by omega
  have e1 := Int.emod_nonneg k hne
  have e2 := Int.emod_lt_of_pos k (show 0 < (n : Int) by omega)
  have HE : Hid ((((k % (n : Int)).toNat : Nat) : Int) = k % (n : Int)) := by show _ = _; omega
  have HT : Hid (Int.tmod k (n : Int) = if 0 ≤ k ∨ k % (n : Int) = 0 then k % (n : Int) else k % (n : Int) - (n : Int)) := by
    show _ = _
    rw [Int.tmod_eq_emod]
    by_cases h : 0 ≤ k
    · simp [h]
    · by_cases hd : (n : Int) ∣ k
      · simp [hd, Int.emod_eq_zero_of_dvd hd]
      · have : ¬ k % (n : Int) = 0 := fun q => hd (Int.dvd_of_emod_eq_zero q)
        simp [h, hd, this]
  go_enter Tryd.func20, Tryd.ntmps20
  go_wp2
  · have h : k.tmod (n : Int) < 0 := by assumption
    have ht := HT.out
    go_ret
    refine ⟨retI ?_, rfl⟩
    rw [HE.out]
    generalize k.tmod (n : Int) = z at *
    generalize k % (n : Int) = y at *
    unfold wrap64
    split at ht <;> omega
  · have h : 0 ≤ k.tmod (n : Int) := by assumption
    have ht := HT.out
    go_ret
    refine ⟨retI ?_, rfl⟩
    rw [HE.out]
    generalize k.tmod (n : Int) = z at *
    generalize k % (n : Int) = y at *
    split at ht <;> omega
end Go.Proofs.YtaooidckmepdeaaDoor
namespace Go.Proofs.YtaooidckmepdeaaDoor
set_option linter.unusedSimpArgs false
set_option linter.unusedVariables false
open Go.RowKit
/-- A batch. -/
structure Ba where
  base : Int
  span : Int
  prod : Int
  seq : Int
  rs : List Rc
/-- As a value, its records at a. -/
def bav (b : Ba) (a : Option Addr) (cap : Nat) : Value := .agg #[.int .i64 b.base, .int .i64 b.span, .int .i64 b.prod, .int .i64 b.seq, .slice a b.rs.length cap]
/-- The slice's address leads to these records. -/
def RRow (w : World) (a : Option Addr) (rs : List Rc) : Prop :=
  ∀ i, i < rs.length → ∃ b off, a = some ⟨b, off, none⟩ ∧ w.cell? ⟨b, off + i * 6, none⟩ = some (.bool (rs.getD i rz).hk) ∧ w.cell? ⟨b, off + i * 6 + 1, none⟩ = some (.string (rs.getD i rz).k) ∧ w.cell? ⟨b, off + i * 6 + 2, none⟩ = some (.bool (rs.getD i rz).hv) ∧ w.cell? ⟨b, off + i * 6 + 3, none⟩ = some (.string (rs.getD i rz).v) ∧ w.cell? ⟨b, off + i * 6 + 4, none⟩ = some (.int .i64 (rs.getD i rz).t) ∧ w.cell? ⟨b, off + i * 6 + 5, none⟩ = some (.int .i64 (rs.getD i rz).o)
theorem RRow.below {w w' : World} {a : Option Addr} {rs : List Rc} (h : RRow w a rs) (hb : Below w.heap.size w w') : RRow w' a rs := by
  intro i hi
  obtain ⟨b, off, e, h0, h1, h2, h3, h4, h5⟩ := h i hi
  exact ⟨b, off, e, (hb.cell (World.block_lt_of_cell? _ _ h0)).trans h0, (hb.cell (World.block_lt_of_cell? _ _ h1)).trans h1, (hb.cell (World.block_lt_of_cell? _ _ h2)).trans h2, (hb.cell (World.block_lt_of_cell? _ _ h3)).trans h3, (hb.cell (World.block_lt_of_cell? _ _ h4)).trans h4, (hb.cell (World.block_lt_of_cell? _ _ h5)).trans h5⟩
theorem RRow.nil (w : World) (a : Option Addr) : RRow w a [] := by intro i hi; simp at hi
/-- What Small answers. -/
def IsB (n : Nat) (e : Ending) : Prop := ∃ b, e = .returned (.bool b) ∧ (b = true → n ≤ 300)
set_option maxRecDepth 100000 in
theorem small_any (a : Option Addr) (cap : Nat) (rs : List Rc) (w : World) (hr : RRow w a rs) (hl : rs.length ≤ maxLen) :
    Calls Tryd.prog 21 #[.slice a rs.length cap] w fun e w' => IsB rs.length e ∧ Below w.heap.size w w' := by
  unfold maxLen at hl
  go_enter Tryd.func21, Tryd.ntmps21
  go_wp2_with fail
  go_loopw [3, 4] (fun n i wr => ∃ (k : Nat) (x : Int), k ≤ rs.length ∧ i = .int .i64 k ∧ n = .int .i64 x ∧ Below w.heap.size w wr) (fun _ i _ => rs.length - (intOf i).toNat)
  case atStart => exact ⟨0, _, by omega, rfl, rfl, Below.refl _ _⟩
  case round =>
    obtain ⟨k, x, hk, rfl, rfl, hb⟩ := hrel
    by_cases hlt : k < rs.length
    · have hltI : (k : Int) < (rs.length : Int) := by omega
      obtain ⟨b, off, rfl, z0, z1, z2, z3, z4, z5⟩ := (hr.below hb) k hlt
      clear hr
      generalize rs.getD k rz = r at *
      by_cases hx : x ≤ 20000
      · go_wp2
        go_quiet (fail)
        go_wp2
        exact ⟨⟨k + 1, _, by omega, by go_num, rfl, below_drewN hb _⟩, by simp [intOf]; omega⟩
      · go_wp2_with fail
        go_ret
        exact ⟨⟨false, rfl, fun c => by cases c⟩, hb⟩
    · obtain rfl : k = rs.length := by omega
      clear hr
      by_cases hx : x ≤ 20000
      · by_cases h3 : (rs.length : Int) ≤ 300
        · go_wp2_with fail
          go_ret
          exact ⟨⟨true, rfl, fun _ => by omega⟩, hb⟩
        · go_wp2_with fail
          go_ret
          exact ⟨⟨false, rfl, fun c => by cases c⟩, hb⟩
      · go_wp2_with fail
        go_ret
        exact ⟨⟨false, rfl, fun c => by cases c⟩, hb⟩
def baseB (z : Int) : Bool := decide (0 ≤ z ∧ z ≤ 1125899906842624)
theorem isBase_any (z : Int) (w : World) : Calls Tryd.prog 100 #[.int .i64 z] w fun e w' => e = .returned (.bool (baseB z)) ∧ w' = w := by
  by_cases h1 : 0 ≤ z
  · by_cases h2 : z ≤ 1125899906842624
    all_goals
      go_enter Tryd.func100, Tryd.ntmps100
      go_wp2
      go_ret
      simp [baseB, h1, h2]
  · go_enter Tryd.func100, Tryd.ntmps100
    go_wp2
    go_ret
    simp [baseB]
    omega
end Go.Proofs.YtaooidckmepdeaaDoor
namespace Go.Proofs.YtaooidckmepdeaaDoor
set_option linter.unusedSimpArgs false
set_option linter.unusedVariables false
open Go.RowKit
/-- Is record i's place right? -/
def RiseAt (rs : List Rc) (span : Int) (i : Nat) : Prop := (rs.getD i rz).o < span ∧ (0 < i → (rs.getD (i - 1) rz).o < (rs.getD i rz).o)
def Rise (rs : List Rc) (span : Int) : Prop := ∀ i, i < rs.length → RiseAt rs span i
def riseAtB (rs : List Rc) (span : Int) (i : Nat) : Bool := decide ((rs.getD i rz).o < span) && (i == 0 || decide ((rs.getD (i - 1) rz).o < (rs.getD i rz).o))
def riseB (rs : List Rc) (span : Int) : Bool := (List.range rs.length).all (riseAtB rs span)
theorem riseAt_iff {rs : List Rc} {span : Int} {i : Nat} : riseAtB rs span i = true ↔ RiseAt rs span i := by
  unfold riseAtB RiseAt
  simp only [Bool.and_eq_true, decide_eq_true_eq, Bool.or_eq_true, beq_iff_eq]
  constructor
  · rintro ⟨h1, h2⟩
    exact ⟨h1, fun h => h2.elim (fun c => absurd c (by omega)) id⟩
  · rintro ⟨h1, h2⟩
    refine ⟨h1, ?_⟩
    by_cases h : i = 0
    · exact .inl h
    · exact .inr (h2 (by omega))
theorem rise_iff {rs : List Rc} {span : Int} : riseB rs span = true ↔ Rise rs span := by
  unfold riseB Rise
  rw [List.all_eq_true]
  exact ⟨fun h i hi => riseAt_iff.1 (h i (List.mem_range.2 hi)), fun h i hi => riseAt_iff.2 (h i (List.mem_range.1 hi))⟩
theorem rise_yes {rs : List Rc} {span : Int} (h : Rise rs span) : riseB rs span = true := rise_iff.2 h
theorem rise_no {rs : List Rc} {span : Int} (h : ¬ Rise rs span) : riseB rs span = false := by
  cases e : riseB rs span with
  | false => rfl
  | true => exact absurd (rise_iff.1 e) h
set_option maxHeartbeats 1600000 in
set_option maxRecDepth 100000 in
theorem rising_any (a : Option Addr) (cap : Nat) (rs : List Rc) (span : Int) (w : World) (hr : RRow w a rs) (hl : rs.length ≤ maxLen) :
    Calls Tryd.prog 101 #[.slice a rs.length cap, .int .i64 span] w fun e w' => e = .returned (.bool (riseB rs span)) ∧ Below w.heap.size w w' := by
  unfold maxLen at hl
  go_enter Tryd.func101, Tryd.ntmps101
  go_wp2_with fail
  go_loopw [9] (fun i wr => ∃ (k : Nat), k ≤ rs.length ∧ i = .int .i64 k ∧ (∀ x, x < k → RiseAt rs span x) ∧ Below w.heap.size w wr) (fun i _ => rs.length - (intOf i).toNat)
  case atStart => exact ⟨0, by omega, rfl, by intro x hx; omega, Below.refl _ _⟩
  case round =>
    obtain ⟨k, hk, rfl, hS, hb⟩ := hrel
    have HS : Hid (∀ x, x < k → RiseAt rs span x) := hS
    clear hS
    by_cases hlt : k < rs.length
    · have hltI : (k : Int) < (rs.length : Int) := by omega
      have HQ : Hid (RiseAt rs span k → ∀ x, x < k + 1 → RiseAt rs span x) := by
        intro e j hj
        by_cases hjk : j = k
        · subst hjk; exact e
        · exact HS.out j (by omega)
      have HN : Hid (¬ RiseAt rs span k → riseB rs span = false) := fun h => rise_no (fun c => h (c k hlt))
      have hr2 := hr.below hb
      obtain ⟨b, off, rfl, z0, z1, z2, z3, z4, z5⟩ := hr2 k hlt
      have hbz := World.block_lt_of_cell? _ _ z0
      simp only at hbz
      have HBB : Hid (∀ cs, Below w.heap.size w (wr.alloc (.cells cs 87))) := fun cs => hb.alloc hb.size _
      by_cases h0 : 0 < k
      · have hkI : (0 : Int) < (k : Int) := by omega
        obtain ⟨j, HJ⟩ : ∃ j, Hid (k = j + 1) := ⟨k - 1, show k = k - 1 + 1 by omega⟩
        have hj := HJ.out
        obtain ⟨b', off', e, y0, y1, y2, y3, y4, y5⟩ := hr2 j (by omega)
        simp only [Option.some.injEq, Addr.mk.injEq, and_true] at e
        obtain ⟨rfl, rfl⟩ := e
        have hk1 : IntKind.i64.wrap ((k : Int) - 1) = (j : Int) := by rw [IntKind.wrap_i64]; omega
        have hk3 : (j : Int) < (rs.length : Int) := by omega
        have HR : Hid (RiseAt rs span k ↔ (rs.getD k rz).o < span ∧ (rs.getD j rz).o < (rs.getD k rz).o) := by
          unfold Hid RiseAt
          rw [show k - 1 = j by omega]
          exact ⟨fun h => ⟨h.1, h.2 h0⟩, fun h => ⟨h.1, fun _ => h.2⟩⟩
        clear hr hr2 y0 y1 y2 y3 y4 hj
        generalize rs.getD k rz = r at *
        generalize (rs.getD j rz).o = po at *
        obtain ⟨hk', kk, hv, v, t, o⟩ := r
        simp only at z0 z1 z2 z3 z4 z5
        by_cases h1 : o < span
        · have h1' : decide (span ≤ o) = false := decide_eq_false (by omega)
          by_cases h2 : po < o
          · have h2' : decide (o ≤ po) = false := decide_eq_false (by omega)
            go_wp2
            go_quiet (fail)
            go_wp2
            exact ⟨⟨k + 1, by omega, by go_num, HQ.out (HR.out.2 ⟨h1, h2⟩), below_drewN (HBB.out _) _⟩, by simp [intOf]; omega⟩
          · have h2' : decide (o ≤ po) = true := decide_eq_true (by omega)
            go_wp2
            go_quiet (fail)
            go_wp2
            go_ret
            exact ⟨retB (HN.out (fun c => absurd (HR.out.1 c).2 (by omega))).symm, below_drewN (HBB.out _) _⟩
        · have h1' : decide (span ≤ o) = true := decide_eq_true (by omega)
          go_wp2
          go_quiet (fail)
          go_wp2
          go_ret
          exact ⟨retB (HN.out (fun c => absurd (HR.out.1 c).1 (by show ¬ o < span; omega))).symm, below_drewN (HBB.out _) _⟩
      · have hkI : ¬ (0 : Int) < (k : Int) := by omega
        have HR : Hid (RiseAt rs span k ↔ (rs.getD k rz).o < span) := by
          unfold Hid RiseAt
          exact ⟨fun h => h.1, fun h => ⟨h, fun c => absurd c h0⟩⟩
        clear hr hr2
        generalize rs.getD k rz = r at *
        obtain ⟨hk', kk, hv, v, t, o⟩ := r
        simp only at z0 z1 z2 z3 z4 z5
        obtain ⟨kI, HKI⟩ : ∃ z : Int, Hid ((k : Int) = z) := ⟨_, rfl⟩
        have q1 : kI.toNat = k := by have := HKI.out; omega
        have q2 : 0 ≤ kI := by have := HKI.out; omega
        have q3 : kI < (rs.length : Int) := by have := HKI.out; omega
        have q4 : decide (0 < kI) = false := decide_eq_false (by have := HKI.out; omega)
        clear h0 hkI hltI
        rw [HKI.out]
        have HW : Hid (kI + 1 = ((k + 1 : Nat) : Int)) := by
          have := HKI.out
          show _ = _
          omega
        by_cases h1 : o < span
        · have h1' : decide (span ≤ o) = false := decide_eq_false (by omega)
          go_wp2
          go_quiet (fail)
          go_wp2
          exact ⟨⟨k + 1, by omega, by rw [HW.out], HQ.out (HR.out.2 h1), below_drewN (HBB.out _) _⟩, by rw [HW.out, ← HKI.out]; simp [intOf]; omega⟩
        · have h1' : decide (span ≤ o) = true := decide_eq_true (by omega)
          go_wp2
          go_quiet (fail)
          go_wp2
          go_ret
          exact ⟨retB (HN.out (fun c => absurd (HR.out.1 c) (by show ¬ o < span; omega))).symm, below_drewN (HBB.out _) _⟩
    · obtain rfl : k = rs.length := by omega
      clear hr
      go_wp2
      go_ret
      exact ⟨retB (rise_yes HS.out).symm, hb⟩
/-- The first record's error. -/
def fstE : List Rc → Int
  | [] => 0
  | r :: t => if chk r = 0 then fstE t else chk r
theorem fst_at (rs : List Rc) (k : Nat) (hk : k < rs.length) (h : ∀ x, x < k → chk (rs.getD x rz) = 0) (hn : chk (rs.getD k rz) ≠ 0) : fstE rs = chk (rs.getD k rz) := by
  induction rs generalizing k with
  | nil => simp at hk
  | cons r t ih =>
    unfold fstE
    cases k with
    | zero => rw [if_neg (show ¬ chk r = 0 from hn)]; rfl
    | succ k =>
      rw [if_pos (show chk r = 0 from h 0 (by omega))]
      exact ih k (by simpa using hk) (fun x hx => h (x + 1) (by omega)) hn
theorem fst_zero (rs : List Rc) (h : ∀ x, x < rs.length → chk (rs.getD x rz) = 0) : fstE rs = 0 := by
  induction rs with
  | nil => rfl
  | cons r t ih =>
    unfold fstE
    rw [if_pos (show chk r = 0 from h 0 (by simp))]
    exact ih (fun x hx => h (x + 1) (by simpa using hx))
theorem fst_all {rs : List Rc} (h : fstE rs = 0) : ∀ r, r ∈ rs → chk r = 0 := by
  induction rs with
  | nil => intro r hr; cases hr
  | cons q t ih =>
    unfold fstE at h
    by_cases hq : chk q = 0
    · rw [if_pos hq] at h
      intro r hr
      rcases List.mem_cons.1 hr with rfl | hr
      · exact hq
      · exact ih h r hr
    · rw [if_neg hq] at h; exact absurd h hq
/-- The numbers ahead of the records. -/
def numsB (b : Ba) : Bool := baseB b.base && decide (1 ≤ b.span) && decide (b.span ≤ 100) && decide (0 ≤ b.prod) && decide (0 ≤ b.seq) && decide (0 < b.rs.length)
/-- Check's error, but for the size. -/
def wrE (b : Ba) : Int := if (numsB b && riseB b.rs b.span) = true then fstE b.rs else 1
set_option maxHeartbeats 1600000 in
set_option maxRecDepth 100000 in
theorem wrong_any (b : Ba) (a : Option Addr) (cap : Nat) (w : World) (hr : RRow w a b.rs) (hl : b.rs.length ≤ maxLen) :
    Calls Tryd.prog 88 #[bav b a cap] w fun e w' => e = .returned (.int .i64 (wrE b)) ∧ Below w.heap.size w w' := by
  have hl0 := hl
  unfold maxLen at hl
  obtain ⟨base, span, prod, seq, rs⟩ := b
  simp only [bav] at hr hl hl0 ⊢
  have HI : Hid _ := isBase_any base
  have HRI : Hid _ := fun w' (h : RRow w' a rs) => rising_any a cap rs span w' h hl0
  obtain ⟨c, HC⟩ : ∃ c, Hid (wrE ⟨base, span, prod, seq, rs⟩ = c) := ⟨_, rfl⟩
  rw [HC.out]
  have HD : Hid (wrE ⟨base, span, prod, seq, rs⟩ = if ((baseB base && decide (1 ≤ span) && decide (span ≤ 100) && decide (0 ≤ prod) && decide (0 ≤ seq) && decide (0 < rs.length)) && riseB rs span) = true then fstE rs else 1) := rfl
  generalize hbb : baseB base = bb at *
  generalize hrb : riseB rs span = rb at *
  clear hbb hrb
  have HR0 : Hid (RRow w a rs) := hr
  clear hr
  have HZ : Hid (∀ cs, Below w.heap.size w (w.alloc (.cells cs 85))) := fun cs => below_box _
  cases bb
  · go_enter Tryd.func88, Tryd.ntmps88
    go_wp2_with (first
      | (go_at_call 100; refine (HI.out _).mono ?_; rintro e w1 ⟨rfl, hw⟩; subst w1)
      | (go_at_call 101; refine (HRI.out _ (RRow.below HR0.out (below_box _))).mono ?_; rintro e w2 ⟨rfl, hb2⟩; have HB2 : Hid (Below w.heap.size w w2) := (below_box _).trans (hb2.mono (by simp)); obtain ⟨hc2, hf2⟩ := bcell hb2; have hz2 : w.heap.size < w2.heap.size := (by (have := hb2.size; simp at this; omega))))
    go_ret
    refine ⟨retI ?_, by first | exact HZ.out _ | exact HB2.out⟩
    rw [← HC.out, HD.out, if_neg]
    simp
    try omega
  · by_cases h1 : span < 1
    · go_enter Tryd.func88, Tryd.ntmps88
      go_wp2_with (first
        | (go_at_call 100; refine (HI.out _).mono ?_; rintro e w1 ⟨rfl, hw⟩; subst w1)
        | (go_at_call 101; refine (HRI.out _ (RRow.below HR0.out (below_box _))).mono ?_; rintro e w2 ⟨rfl, hb2⟩; have HB2 : Hid (Below w.heap.size w w2) := (below_box _).trans (hb2.mono (by simp)); obtain ⟨hc2, hf2⟩ := bcell hb2; have hz2 : w.heap.size < w2.heap.size := (by (have := hb2.size; simp at this; omega))))
      go_ret
      refine ⟨retI ?_, by first | exact HZ.out _ | exact HB2.out⟩
      rw [← HC.out, HD.out, if_neg]
      simp
      try omega
    · by_cases h2 : 100 < span
      · go_enter Tryd.func88, Tryd.ntmps88
        go_wp2_with (first
          | (go_at_call 100; refine (HI.out _).mono ?_; rintro e w1 ⟨rfl, hw⟩; subst w1)
          | (go_at_call 101; refine (HRI.out _ (RRow.below HR0.out (below_box _))).mono ?_; rintro e w2 ⟨rfl, hb2⟩; have HB2 : Hid (Below w.heap.size w w2) := (below_box _).trans (hb2.mono (by simp)); obtain ⟨hc2, hf2⟩ := bcell hb2; have hz2 : w.heap.size < w2.heap.size := (by (have := hb2.size; simp at this; omega))))
        go_ret
        refine ⟨retI ?_, by first | exact HZ.out _ | exact HB2.out⟩
        rw [← HC.out, HD.out, if_neg]
        simp
        try omega
      · by_cases h3 : prod < 0
        · go_enter Tryd.func88, Tryd.ntmps88
          go_wp2_with (first
            | (go_at_call 100; refine (HI.out _).mono ?_; rintro e w1 ⟨rfl, hw⟩; subst w1)
            | (go_at_call 101; refine (HRI.out _ (RRow.below HR0.out (below_box _))).mono ?_; rintro e w2 ⟨rfl, hb2⟩; have HB2 : Hid (Below w.heap.size w w2) := (below_box _).trans (hb2.mono (by simp)); obtain ⟨hc2, hf2⟩ := bcell hb2; have hz2 : w.heap.size < w2.heap.size := (by (have := hb2.size; simp at this; omega))))
          go_ret
          refine ⟨retI ?_, by first | exact HZ.out _ | exact HB2.out⟩
          rw [← HC.out, HD.out, if_neg]
          simp
          try omega
        · by_cases h4 : seq < 0
          · go_enter Tryd.func88, Tryd.ntmps88
            go_wp2_with (first
              | (go_at_call 100; refine (HI.out _).mono ?_; rintro e w1 ⟨rfl, hw⟩; subst w1)
              | (go_at_call 101; refine (HRI.out _ (RRow.below HR0.out (below_box _))).mono ?_; rintro e w2 ⟨rfl, hb2⟩; have HB2 : Hid (Below w.heap.size w w2) := (below_box _).trans (hb2.mono (by simp)); obtain ⟨hc2, hf2⟩ := bcell hb2; have hz2 : w.heap.size < w2.heap.size := (by (have := hb2.size; simp at this; omega))))
            go_ret
            refine ⟨retI ?_, by first | exact HZ.out _ | exact HB2.out⟩
            rw [← HC.out, HD.out, if_neg]
            simp
            try omega
          · by_cases h5 : ((rs.length : Int) == 0) = true
            · go_enter Tryd.func88, Tryd.ntmps88
              go_wp2_with (first
                | (go_at_call 100; refine (HI.out _).mono ?_; rintro e w1 ⟨rfl, hw⟩; subst w1)
                | (go_at_call 101; refine (HRI.out _ (RRow.below HR0.out (below_box _))).mono ?_; rintro e w2 ⟨rfl, hb2⟩; have HB2 : Hid (Below w.heap.size w w2) := (below_box _).trans (hb2.mono (by simp)); obtain ⟨hc2, hf2⟩ := bcell hb2; have hz2 : w.heap.size < w2.heap.size := (by (have := hb2.size; simp at this; omega))))
              go_ret
              refine ⟨retI ?_, by first | exact HZ.out _ | exact HB2.out⟩
              rw [← HC.out, HD.out, if_neg]
              have : rs.length = 0 := by simpa using h5
              simp [this]
            · have h5' : ((rs.length : Int) == 0) = false := by simpa using h5
              cases rb
              · go_enter Tryd.func88, Tryd.ntmps88
                go_wp2_with (first
                  | (go_at_call 100; refine (HI.out _).mono ?_; rintro e w1 ⟨rfl, hw⟩; subst w1)
                  | (go_at_call 101; refine (HRI.out _ (RRow.below HR0.out (below_box _))).mono ?_; rintro e w2 ⟨rfl, hb2⟩; have HB2 : Hid (Below w.heap.size w w2) := (below_box _).trans (hb2.mono (by simp)); obtain ⟨hc2, hf2⟩ := bcell hb2; have hz2 : w.heap.size < w2.heap.size := (by (have := hb2.size; simp at this; omega))))
                go_ret
                refine ⟨retI ?_, by first | exact HZ.out _ | exact HB2.out⟩
                rw [← HC.out, HD.out, if_neg]
                simp
                try omega
              · go_enter Tryd.func88, Tryd.ntmps88
                go_wp2_with (first
                  | (go_at_call 100; refine (HI.out _).mono ?_; rintro e w1 ⟨rfl, hw⟩; subst w1)
                  | (go_at_call 101; refine (HRI.out _ (RRow.below HR0.out (below_box _))).mono ?_; rintro e w2 ⟨rfl, hb2⟩; have HB2 : Hid (Below w.heap.size w w2) := (below_box _).trans (hb2.mono (by simp)); obtain ⟨hc2, hf2⟩ := bcell hb2; have hz2 : w.heap.size < w2.heap.size := (by (have := hb2.size; simp at this; omega))))
                have HT : Hid (c = fstE rs) := by
                  show _ = _
                  rw [← HC.out, HD.out, if_pos]
                  simp at h5' ⊢
                  have := List.length_pos_iff.2 h5'
                  omega
                clear HC HD
                go_loopw [36] (fun i wr => ∃ (k : Nat), k ≤ rs.length ∧ i = .int .i64 k ∧ (∀ x, x < k → chk (rs.getD x rz) = 0) ∧ Below w.heap.size w wr) (fun i _ => rs.length - (intOf i).toNat)
                case atStart => exact ⟨0, by omega, rfl, by intro x hx; omega, HB2.out⟩
                case round =>
                  obtain ⟨k, hk, rfl, hS, hb⟩ := hrel
                  have HS : Hid (∀ x, x < k → chk (rs.getD x rz) = 0) := hS
                  clear hS
                  by_cases hlt : k < rs.length
                  · have hltI : (k : Int) < (rs.length : Int) := by omega
                    have HQ : Hid (chk (rs.getD k rz) = 0 → ∀ x, x < k + 1 → chk (rs.getD x rz) = 0) := by
                      intro e j hj
                      by_cases hjk : j = k
                      · subst hjk; exact e
                      · exact HS.out j (by omega)
                    have HN : Hid (chk (rs.getD k rz) ≠ 0 → c = chk (rs.getD k rz)) := fun h => by rw [HT.out]; exact fst_at rs k hlt HS.out h
                    have HCK : Hid _ := check_any (rs.getD k rz)
                    obtain ⟨b, off, rfl, z0, z1, z2, z3, z4, z5⟩ := (RRow.below HR0.out hb) k hlt
                    have hbz := World.block_lt_of_cell? _ _ z0
                    simp only at hbz
                    have HBB : Hid (∀ cs, Below w.heap.size w (wr.alloc (.cells cs 87))) := fun cs => hb.alloc hb.size _
                    have hz3 : w.heap.size ≤ wr.heap.size := hb.size
                    clear hc2 hf2 hz2 hb2
                    generalize rs.getD k rz = r at *
                    obtain ⟨c0, HC0⟩ : ∃ c0, Hid (chk r = c0) := ⟨_, rfl⟩
                    rw [HC0.out] at HCK HQ HN
                    obtain ⟨hk', kk, hv, v, t, o⟩ := r
                    simp only at z0 z1 z2 z3 z4 z5
                    simp only [Rc.cells] at HCK
                    by_cases h0 : c0 = 0
                    · subst h0
                      go_wp2_with (go_at_call 102; refine (HCK.out _).mono ?_; rintro e w4 ⟨rfl, hb4⟩; have HB4 : Hid (Below w.heap.size w w4) := (HBB.out _).trans (hb4.mono (by simp; omega)))
                      exact ⟨⟨k + 1, by omega, by go_num, HQ.out (by trivial), HB4.out⟩, by simp [intOf]; omega⟩
                    · have h0' : (c0 != 0) = true := by rw [bne_iff_ne]; exact h0
                      go_wp2_with (go_at_call 102; refine (HCK.out _).mono ?_; rintro e w4 ⟨rfl, hb4⟩; have HB4 : Hid (Below w.heap.size w w4) := (HBB.out _).trans (hb4.mono (by simp; omega)))
                      go_ret
                      exact ⟨retI (HN.out (by simpa using h0')).symm, HB4.out⟩
                  · obtain rfl : k = rs.length := by omega
                    go_wp2_with fail
                    go_ret
                    exact ⟨retI (by rw [HT.out, fst_zero rs HS.out]), hb⟩
end Go.Proofs.YtaooidckmepdeaaDoor
