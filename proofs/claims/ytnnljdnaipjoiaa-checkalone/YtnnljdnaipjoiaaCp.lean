/- maps.Copy and with, for the three kinds of maps. -/
import Derived.Test.YtnnljdnaipjoiaaAg
namespace Go.Proofs.Ytnnljdnaipjoiaa
set_option linter.unusedSimpArgs false
set_option linter.unusedVariables false
open Go.RowKit Go.MapKept
/-- Under way: what has come stands there. -/
def Mrg {α : Type} (F K D : α → Option Value) (left : α → Prop) : Prop := ∀ x, (¬ left x → D x = (F x).or (K x)) ∧ (left x → D x = K x)
theorem Mrg.start {α : Type} (F K : α → Option Value) : Mrg F K K (fun a => ∃ v, F a = some v) := fun x => ⟨fun h => by
  cases hf : F x with
  | none => rfl
  | some v => exact absurd ⟨v, hf⟩ h, fun _ => rfl⟩
theorem Mrg.step {α : Type} [DecidableEq α] {F K D : α → Option Value} {left : α → Prop} (h : Mrg F K D left) {c : α} {v : Value} (hc : left c) (hf : F c = some v) : Mrg F K (put D c v) (fun x => left x ∧ x ≠ c) := fun x => by
  unfold put
  by_cases e : x = c
  · subst e
    rw [if_pos rfl]
    exact ⟨fun _ => by rw [hf]; rfl, fun q => absurd rfl q.2⟩
  · rw [if_neg e]
    exact ⟨fun q => (h x).1 (fun l => q ⟨l, e⟩), fun q => (h x).2 q.1⟩
theorem Mrg.done {α : Type} {F K D : α → Option Value} {left : α → Prop} (h : Mrg F K D left) (hl : ∀ x, ¬ left x) : D = fun x => (F x).or (K x) := funext fun x => (h x).1 (hl x)
theorem or_map {α β : Type} (g : α → β) (a b : Option α) : (a.map g).or (b.map g) = (a.or b).map g := by cases a <;> rfl
theorem Rng.kept {α : Type} {mk : α → Value} {f : α → Option Value} {w w' : World} {b r n cnt : Nat} {left : α → Prop} {row : Option Nat} (h : Rng w b r mk f n left cnt) (hg : w.grownBy w' row) (h1 : some b ≠ row) (h2 : some r ≠ row) : Rng w' b r mk f n left cnt := h.blk (hg.block b h.map.lt h1) (hg.block r h.lt h2)
theorem MapIs.kept {α : Type} {mk : α → Value} {f : α → Option Value} {w w' : World} {b n : Nat} {row : Option Nat} (h : MapIs w b mk f n) (hg : w.grownBy w' row) (h1 : some b ≠ row) : MapIs w' b mk f n := h.blk (hg.block b h.lt h1)
theorem grown_and {w w1 w2 : World} {b r : Option Nat} (h : w.grownBy w1 b) (k : w1.grownBy w2 r) (hr : ∀ x, r = some x → b = some x ∨ w.heap.size ≤ x) : w.grownBy w2 b :=
  ⟨k.os.trans h.os, k.tape.trans h.tape, k.output.trans h.output, Nat.le_trans h.size k.size, fun i hi hn => (k.block i (Nat.lt_of_lt_of_le hi h.size) (fun e => by rcases hr i e.symm with q | q; exact hn q.symm; omega)).trans (h.block i hi hn)⟩
set_option maxRecDepth 100000 in
theorem copyP_any (bd bs n1 n2 : Nat) (K F : PK → Option Value) (w : World) (hd : MapIs w bd mkP K n1) (hs : MapIs w bs mkP (fun x => (F x)) n2) (hv : ∀ c v, F c = some v → ∃ u, v = vB u) (hne : bd ≠ bs) :
    Calls Try.prog 50 #[.map (some bd), .map (some bs)] w fun e w' => e = .returned (.tuple #[]) ∧ (∃ n, MapIs w' bd mkP (fun x => (F x).or (K x)) n) ∧ w.grownBy w' (some bd) := by
  have hbd := hd.lt
  have hbs := hs.lt
  go_enter Try.func50, Try.ntmps50
  go_wp2_with (first
    | (at_range; refine wpList_rng rfl 55 _ rfl kbP Try.underlying55 bs n2 rfl hs ?_; intro w0 hrg0 hb0 hz0)
    | go_in)
  go_frame
  go_loopw [8] (fun _ wr => ∃ (left : PK → Prop) (cnt n : Nat) (D : PK → Option Value), Rng wr bs w.heap.size mkP F n2 left cnt ∧ MapIs wr bd mkP D n ∧ Mrg F K D left ∧ w.grownBy wr (some bd) ∧ w.heap.size < wr.heap.size)
    (fun _ wr => wr.rangeLeft bs w.heap.size)
  case atStart => exact ⟨_, _, n1, K, hrg0, hd.below hb0, Mrg.start F K, grown_below hb0 _, by omega⟩
  case round =>
    obtain ⟨left, cnt, n, D, hrg, hmd, hM, hgw, hsz⟩ := hrel
    go_wp2_with (first
      | (at_next; refine wpList_nxt rfl _ rfl kbP bs w.heap.size n2 left cnt rfl hrg ?_ ?_)
      | go_in)
    · intro hl0
      go_wp2
      have e := hM.done (fun x => by obtain ⟨a0, a1⟩ := x; exact hl0 _ _)
      subst e
      go_end0
      exact ⟨rfl, ⟨n, hmd⟩, hgw⟩
    · intro a0 a1 v w1 cnt1 hlc hfc hrg1 hlt hg1 hz1 hen
      obtain ⟨u, rfl⟩ := hv (a0, a1) v hfc
      have hmd1 := hmd.kept hg1 (fun e => by injection e with e; omega)
      have hgw1 := grown_and hgw hg1 (fun x e => .inr (by injection e with e; omega))
      have HM2 : Hid (∀ o1 o2 : Obj, MapIs ((w1.alloc o1).alloc o2) bd mkP D n ∧ Rng ((w1.alloc o1).alloc o2) bs w.heap.size mkP F n2 (fun x => left x ∧ x ≠ (a0, a1)) cnt1 ∧ w.grownBy ((w1.alloc o1).alloc o2) (some bd) ∧ w.heap.size < ((w1.alloc o1).alloc o2).heap.size) := fun o1 o2 => by
        have hb2 : Below w1.heap.size w1 ((w1.alloc o1).alloc o2) := ((below_box _).trans ((below_box _).mono (by simp)))
        exact ⟨hmd1.below hb2, hrg1.kept (grown_below hb2 none) (by simp) (by simp), grown_and hgw1 (grown_below hb2 none) (by simp), Nat.lt_of_lt_of_le (by omega) hb2.size⟩
      have HX : Hid (∀ (o1 o2 : Obj) (w3 : World), ((w1.alloc o1).alloc o2).grownBy w3 (some bd) → Rng w3 bs w.heap.size mkP F n2 (fun x => left x ∧ x ≠ (a0, a1)) cnt1 ∧ w.grownBy w3 (some bd) ∧ w.heap.size < w3.heap.size) := fun o1 o2 w3 hg => by
        obtain ⟨_, h2, h3, h4⟩ := HM2.out o1 o2
        exact ⟨h2.kept hg (fun e => hne (by injection e with e; exact e.symm)) (fun e => by injection e with e; omega), grown_trans h3 hg, Nat.lt_of_lt_of_le h4 hg.size⟩
      have HL : Hid (left (a0, a1) ∧ F (a0, a1) = some (vB u)) := ⟨hlc, hfc⟩
      have HLT : Hid (cnt1 < cnt ∧ wr.rangeLeft bs w.heap.size = cnt) := ⟨hlt, hrg.left_eq⟩
      have HMR : Hid (Mrg F K D left) := hM
      clear hlc hfc hrg1 hlt hg1 hmd1 hgw1 hM hmd hrg hgw hv
      obtain ⟨u0, u1⟩ := u
      simp only [mkP, vB] at hen
      go_wp2_with (first
        | (at_mapUpdate; refine wpList_put rfl 55 _ _ _ rfl kbP Try.underlying55 bd n rfl (HM2.out _ _).1 (a0, a1) rfl (.agg #[.int .i64 u0, .int .i64 u1]) rfl ?_; intro w3 hm3 hg3 hz3; go_frame)
        | go_in)
      obtain ⟨hr3, hg4, hs4⟩ := HX.out _ _ _ hg3
      go_roundw
      case rel => exact ⟨_, cnt1, n + 1, _, hr3, hm3, HMR.out.step HL.out.1 HL.out.2, hg4, hs4⟩
      case measure => rw [hr3.left_eq, HLT.out.2]; exact HLT.out.1
set_option maxRecDepth 100000 in
theorem copyS_any (bd bs n1 n2 : Nat) (K F : SK → Option Value) (w : World) (hd : MapIs w bd mkS K n1) (hs : MapIs w bs mkS (fun x => (F x)) n2) (hv : ∀ c v, F c = some v → ∃ u, v = vR u) (hne : bd ≠ bs) :
    Calls Try.prog 51 #[.map (some bd), .map (some bs)] w fun e w' => e = .returned (.tuple #[]) ∧ (∃ n, MapIs w' bd mkS (fun x => (F x).or (K x)) n) ∧ w.grownBy w' (some bd) := by
  have hbd := hd.lt
  have hbs := hs.lt
  go_enter Try.func51, Try.ntmps51
  go_wp2_with (first
    | (at_range; refine wpList_rng rfl 56 _ rfl kbS Try.underlying56 bs n2 rfl hs ?_; intro w0 hrg0 hb0 hz0)
    | go_in)
  go_frame
  go_loopw [8] (fun _ wr => ∃ (left : SK → Prop) (cnt n : Nat) (D : SK → Option Value), Rng wr bs w.heap.size mkS F n2 left cnt ∧ MapIs wr bd mkS D n ∧ Mrg F K D left ∧ w.grownBy wr (some bd) ∧ w.heap.size < wr.heap.size)
    (fun _ wr => wr.rangeLeft bs w.heap.size)
  case atStart => exact ⟨_, _, n1, K, hrg0, hd.below hb0, Mrg.start F K, grown_below hb0 _, by omega⟩
  case round =>
    obtain ⟨left, cnt, n, D, hrg, hmd, hM, hgw, hsz⟩ := hrel
    go_wp2_with (first
      | (at_next; refine wpList_nxt rfl _ rfl kbS bs w.heap.size n2 left cnt rfl hrg ?_ ?_)
      | go_in)
    · intro hl0
      go_wp2
      have e := hM.done (fun x => by obtain ⟨a0, a1, a2⟩ := x; exact hl0 _ _ _)
      subst e
      go_end0
      exact ⟨rfl, ⟨n, hmd⟩, hgw⟩
    · intro a0 a1 a2 v w1 cnt1 hlc hfc hrg1 hlt hg1 hz1 hen
      obtain ⟨u, rfl⟩ := hv (a0, a1, a2) v hfc
      have hmd1 := hmd.kept hg1 (fun e => by injection e with e; omega)
      have hgw1 := grown_and hgw hg1 (fun x e => .inr (by injection e with e; omega))
      have HM2 : Hid (∀ o1 o2 : Obj, MapIs ((w1.alloc o1).alloc o2) bd mkS D n ∧ Rng ((w1.alloc o1).alloc o2) bs w.heap.size mkS F n2 (fun x => left x ∧ x ≠ (a0, a1, a2)) cnt1 ∧ w.grownBy ((w1.alloc o1).alloc o2) (some bd) ∧ w.heap.size < ((w1.alloc o1).alloc o2).heap.size) := fun o1 o2 => by
        have hb2 : Below w1.heap.size w1 ((w1.alloc o1).alloc o2) := ((below_box _).trans ((below_box _).mono (by simp)))
        exact ⟨hmd1.below hb2, hrg1.kept (grown_below hb2 none) (by simp) (by simp), grown_and hgw1 (grown_below hb2 none) (by simp), Nat.lt_of_lt_of_le (by omega) hb2.size⟩
      have HX : Hid (∀ (o1 o2 : Obj) (w3 : World), ((w1.alloc o1).alloc o2).grownBy w3 (some bd) → Rng w3 bs w.heap.size mkS F n2 (fun x => left x ∧ x ≠ (a0, a1, a2)) cnt1 ∧ w.grownBy w3 (some bd) ∧ w.heap.size < w3.heap.size) := fun o1 o2 w3 hg => by
        obtain ⟨_, h2, h3, h4⟩ := HM2.out o1 o2
        exact ⟨h2.kept hg (fun e => hne (by injection e with e; exact e.symm)) (fun e => by injection e with e; omega), grown_trans h3 hg, Nat.lt_of_lt_of_le h4 hg.size⟩
      have HL : Hid (left (a0, a1, a2) ∧ F (a0, a1, a2) = some (vR u)) := ⟨hlc, hfc⟩
      have HLT : Hid (cnt1 < cnt ∧ wr.rangeLeft bs w.heap.size = cnt) := ⟨hlt, hrg.left_eq⟩
      have HMR : Hid (Mrg F K D left) := hM
      clear hlc hfc hrg1 hlt hg1 hmd1 hgw1 hM hmd hrg hgw hv
      obtain ⟨u0, u1, u2, u3, u4, u5⟩ := u
      simp only [mkS, vR, Rc.cells] at hen
      go_wp2_with (first
        | (at_mapUpdate; refine wpList_put rfl 56 _ _ _ rfl kbS Try.underlying56 bd n rfl (HM2.out _ _).1 (a0, a1, a2) rfl (.agg #[.bool u0, .string u1, .bool u2, .string u3, .int .i64 u4, .int .i64 u5]) rfl ?_; intro w3 hm3 hg3 hz3; go_frame)
        | go_in)
      obtain ⟨hr3, hg4, hs4⟩ := HX.out _ _ _ hg3
      go_roundw
      case rel => exact ⟨_, cnt1, n + 1, _, hr3, hm3, HMR.out.step HL.out.1 HL.out.2, hg4, hs4⟩
      case measure => rw [hr3.left_eq, HLT.out.2]; exact HLT.out.1
set_option maxRecDepth 100000 in
theorem copyT_any (bd bs n1 n2 : Nat) (K F : TK → Option Value) (w : World) (hd : MapIs w bd mkT K n1) (hs : MapIs w bs mkT (fun x => (F x)) n2) (hv : ∀ c v, F c = some v → ∃ u, v = vI u) (hne : bd ≠ bs) :
    Calls Try.prog 52 #[.map (some bd), .map (some bs)] w fun e w' => e = .returned (.tuple #[]) ∧ (∃ n, MapIs w' bd mkT (fun x => (F x).or (K x)) n) ∧ w.grownBy w' (some bd) := by
  have hbd := hd.lt
  have hbs := hs.lt
  go_enter Try.func52, Try.ntmps52
  go_wp2_with (first
    | (at_range; refine wpList_rng rfl 57 _ rfl kbT Try.underlying57 bs n2 rfl hs ?_; intro w0 hrg0 hb0 hz0)
    | go_in)
  go_frame
  go_loopw [8] (fun _ wr => ∃ (left : TK → Prop) (cnt n : Nat) (D : TK → Option Value), Rng wr bs w.heap.size mkT F n2 left cnt ∧ MapIs wr bd mkT D n ∧ Mrg F K D left ∧ w.grownBy wr (some bd) ∧ w.heap.size < wr.heap.size)
    (fun _ wr => wr.rangeLeft bs w.heap.size)
  case atStart => exact ⟨_, _, n1, K, hrg0, hd.below hb0, Mrg.start F K, grown_below hb0 _, by omega⟩
  case round =>
    obtain ⟨left, cnt, n, D, hrg, hmd, hM, hgw, hsz⟩ := hrel
    go_wp2_with (first
      | (at_next; refine wpList_nxt rfl _ rfl kbT bs w.heap.size n2 left cnt rfl hrg ?_ ?_)
      | go_in)
    · intro hl0
      go_wp2
      have e := hM.done (fun x => by obtain ⟨a0, a1, a2, a3⟩ := x; exact hl0 _ _ _ _)
      subst e
      go_end0
      exact ⟨rfl, ⟨n, hmd⟩, hgw⟩
    · intro a0 a1 a2 a3 v w1 cnt1 hlc hfc hrg1 hlt hg1 hz1 hen
      obtain ⟨u, rfl⟩ := hv (a0, a1, a2, a3) v hfc
      have hmd1 := hmd.kept hg1 (fun e => by injection e with e; omega)
      have hgw1 := grown_and hgw hg1 (fun x e => .inr (by injection e with e; omega))
      have HM2 : Hid (∀ o1 : Obj, MapIs (w1.alloc o1) bd mkT D n ∧ Rng (w1.alloc o1) bs w.heap.size mkT F n2 (fun x => left x ∧ x ≠ (a0, a1, a2, a3)) cnt1 ∧ w.grownBy (w1.alloc o1) (some bd) ∧ w.heap.size < (w1.alloc o1).heap.size) := fun o1 => by
        have hb2 : Below w1.heap.size w1 (w1.alloc o1) := (below_box _)
        exact ⟨hmd1.below hb2, hrg1.kept (grown_below hb2 none) (by simp) (by simp), grown_and hgw1 (grown_below hb2 none) (by simp), Nat.lt_of_lt_of_le (by omega) hb2.size⟩
      have HX : Hid (∀ (o1 : Obj) (w3 : World), (w1.alloc o1).grownBy w3 (some bd) → Rng w3 bs w.heap.size mkT F n2 (fun x => left x ∧ x ≠ (a0, a1, a2, a3)) cnt1 ∧ w.grownBy w3 (some bd) ∧ w.heap.size < w3.heap.size) := fun o1 w3 hg => by
        obtain ⟨_, h2, h3, h4⟩ := HM2.out o1
        exact ⟨h2.kept hg (fun e => hne (by injection e with e; exact e.symm)) (fun e => by injection e with e; omega), grown_trans h3 hg, Nat.lt_of_lt_of_le h4 hg.size⟩
      have HL : Hid (left (a0, a1, a2, a3) ∧ F (a0, a1, a2, a3) = some (vI u)) := ⟨hlc, hfc⟩
      have HLT : Hid (cnt1 < cnt ∧ wr.rangeLeft bs w.heap.size = cnt) := ⟨hlt, hrg.left_eq⟩
      have HMR : Hid (Mrg F K D left) := hM
      clear hlc hfc hrg1 hlt hg1 hmd1 hgw1 hM hmd hrg hgw hv
      skip
      simp only [mkT, vI] at hen
      go_wp2_with (first
        | (at_mapUpdate; refine wpList_put rfl 57 _ _ _ rfl kbT Try.underlying57 bd n rfl (HM2.out _).1 (a0, a1, a2, a3) rfl (.int .i64 u) rfl ?_; intro w3 hm3 hg3 hz3; go_frame)
        | go_in)
      obtain ⟨hr3, hg4, hs4⟩ := HX.out _ _ hg3
      go_roundw
      case rel => exact ⟨_, cnt1, n + 1, _, hr3, hm3, HMR.out.step HL.out.1 HL.out.2, hg4, hs4⟩
      case measure => rw [hr3.left_eq, HLT.out.2]; exact HLT.out.1
/-- Behind with. -/
def WthP (w : World) (vk : Option Nat) (K F : PK → Option Value) (e : Ending) (w' : World) : Prop :=
  ∃ bd, e = .returned (.map (some bd)) ∧ (∃ n, MapIs w' bd mkP (fun x => (F x).or (K x)) n) ∧ (vk = some bd ∨ (vk = none ∧ w.heap.size ≤ bd)) ∧ w.grownBy w' vk
set_option maxRecDepth 100000 in
theorem withP_any (vk : Option Nat) (bs n2 : Nat) (K F : PK → Option Value) (w : World) (hd : MOpt w vk mkP K) (hs : MapIs w bs mkP (fun x => (F x)) n2) (hv : ∀ c v, F c = some v → ∃ u, v = vB u) (hne : vk ≠ some bs) :
    Calls Try.prog 30 #[.map vk, .map (some bs)] w fun e w' => WthP w vk K F e w' := by
  rcases hd with ⟨rfl, hd⟩ | ⟨bd, n1, rfl, hd⟩
  · obtain rfl : K = fun _ => none := funext hd
    have hm := MapIs.made (mk := mkP) w
    have hlt := hs.lt
    have hb : Below w.heap.size w (w.alloc (.map #[] 0)) := below_box _
    have HC : Hid _ := copyP_any w.heap.size bs 0 n2 (fun _ => none) F (w.alloc (.map #[] 0)) hm (hs.below hb) hv (by omega)
    have HE : Hid (∀ w', (∃ n, MapIs w' w.heap.size mkP (fun x => (F x).or none) n) → (w.alloc (.map #[] 0)).grownBy w' (some w.heap.size) → WthP w none (fun _ => none) F (.returned (.map (some w.heap.size))) w') := fun w' h1 h2 =>
      ⟨_, rfl, h1, .inr ⟨rfl, Nat.le_refl _⟩, grown_and (grown_below hb none) h2 (fun x e => .inr (by injection e with e; omega))⟩
    generalize WthP w none (fun _ => none) F = AP at *
    clear hs hd hm hb hv
    have hmm := @run_makeMap Try.prog
    have qT : ∀ (w : World) (r : Option Nat), (binOp .eql 55 (.map r) (.map none)).run Try.prog w = .ok (.bool r.isNone) w := fun w r => run_eql_map_nil w _ _ _ r Try.underlying55
    go_enter Try.func30, Try.ntmps30
    go_wp2_with (go_at_call 50; refine Calls.mono HC.out ?_; rintro e w1 ⟨rfl, h1, h2⟩)
    exact HE.out _ h1 h2
  · have HC : Hid _ := copyP_any bd bs n1 n2 K F w hd hs hv (fun e => hne (by rw [e]))
    have HE : Hid (∀ w', (∃ n, MapIs w' bd mkP (fun x => (F x).or (K x)) n) → w.grownBy w' (some bd) → WthP w (some bd) K F (.returned (.map (some bd))) w') := fun w' h1 h2 => ⟨_, rfl, h1, .inl rfl, h2⟩
    generalize WthP w (some bd) K F = AP at *
    clear hs hd hv hne
    have hmm := @run_makeMap Try.prog
    have qT : ∀ (w : World) (r : Option Nat), (binOp .eql 55 (.map r) (.map none)).run Try.prog w = .ok (.bool r.isNone) w := fun w r => run_eql_map_nil w _ _ _ r Try.underlying55
    go_enter Try.func30, Try.ntmps30
    go_wp2_with (go_at_call 50; refine Calls.mono HC.out ?_; rintro e w1 ⟨rfl, h1, h2⟩)
    exact HE.out _ h1 h2
/-- Behind with. -/
def WthS (w : World) (vk : Option Nat) (K F : SK → Option Value) (e : Ending) (w' : World) : Prop :=
  ∃ bd, e = .returned (.map (some bd)) ∧ (∃ n, MapIs w' bd mkS (fun x => (F x).or (K x)) n) ∧ (vk = some bd ∨ (vk = none ∧ w.heap.size ≤ bd)) ∧ w.grownBy w' vk
set_option maxRecDepth 100000 in
theorem withS_any (vk : Option Nat) (bs n2 : Nat) (K F : SK → Option Value) (w : World) (hd : MOpt w vk mkS K) (hs : MapIs w bs mkS (fun x => (F x)) n2) (hv : ∀ c v, F c = some v → ∃ u, v = vR u) (hne : vk ≠ some bs) :
    Calls Try.prog 31 #[.map vk, .map (some bs)] w fun e w' => WthS w vk K F e w' := by
  rcases hd with ⟨rfl, hd⟩ | ⟨bd, n1, rfl, hd⟩
  · obtain rfl : K = fun _ => none := funext hd
    have hm := MapIs.made (mk := mkS) w
    have hlt := hs.lt
    have hb : Below w.heap.size w (w.alloc (.map #[] 0)) := below_box _
    have HC : Hid _ := copyS_any w.heap.size bs 0 n2 (fun _ => none) F (w.alloc (.map #[] 0)) hm (hs.below hb) hv (by omega)
    have HE : Hid (∀ w', (∃ n, MapIs w' w.heap.size mkS (fun x => (F x).or none) n) → (w.alloc (.map #[] 0)).grownBy w' (some w.heap.size) → WthS w none (fun _ => none) F (.returned (.map (some w.heap.size))) w') := fun w' h1 h2 =>
      ⟨_, rfl, h1, .inr ⟨rfl, Nat.le_refl _⟩, grown_and (grown_below hb none) h2 (fun x e => .inr (by injection e with e; omega))⟩
    generalize WthS w none (fun _ => none) F = AP at *
    clear hs hd hm hb hv
    have hmm := @run_makeMap Try.prog
    have qT : ∀ (w : World) (r : Option Nat), (binOp .eql 56 (.map r) (.map none)).run Try.prog w = .ok (.bool r.isNone) w := fun w r => run_eql_map_nil w _ _ _ r Try.underlying56
    go_enter Try.func31, Try.ntmps31
    go_wp2_with (go_at_call 51; refine Calls.mono HC.out ?_; rintro e w1 ⟨rfl, h1, h2⟩)
    exact HE.out _ h1 h2
  · have HC : Hid _ := copyS_any bd bs n1 n2 K F w hd hs hv (fun e => hne (by rw [e]))
    have HE : Hid (∀ w', (∃ n, MapIs w' bd mkS (fun x => (F x).or (K x)) n) → w.grownBy w' (some bd) → WthS w (some bd) K F (.returned (.map (some bd))) w') := fun w' h1 h2 => ⟨_, rfl, h1, .inl rfl, h2⟩
    generalize WthS w (some bd) K F = AP at *
    clear hs hd hv hne
    have hmm := @run_makeMap Try.prog
    have qT : ∀ (w : World) (r : Option Nat), (binOp .eql 56 (.map r) (.map none)).run Try.prog w = .ok (.bool r.isNone) w := fun w r => run_eql_map_nil w _ _ _ r Try.underlying56
    go_enter Try.func31, Try.ntmps31
    go_wp2_with (go_at_call 51; refine Calls.mono HC.out ?_; rintro e w1 ⟨rfl, h1, h2⟩)
    exact HE.out _ h1 h2
/-- Behind with. -/
def WthT (w : World) (vk : Option Nat) (K F : TK → Option Value) (e : Ending) (w' : World) : Prop :=
  ∃ bd, e = .returned (.map (some bd)) ∧ (∃ n, MapIs w' bd mkT (fun x => (F x).or (K x)) n) ∧ (vk = some bd ∨ (vk = none ∧ w.heap.size ≤ bd)) ∧ w.grownBy w' vk
set_option maxRecDepth 100000 in
theorem withT_any (vk : Option Nat) (bs n2 : Nat) (K F : TK → Option Value) (w : World) (hd : MOpt w vk mkT K) (hs : MapIs w bs mkT (fun x => (F x)) n2) (hv : ∀ c v, F c = some v → ∃ u, v = vI u) (hne : vk ≠ some bs) :
    Calls Try.prog 32 #[.map vk, .map (some bs)] w fun e w' => WthT w vk K F e w' := by
  rcases hd with ⟨rfl, hd⟩ | ⟨bd, n1, rfl, hd⟩
  · obtain rfl : K = fun _ => none := funext hd
    have hm := MapIs.made (mk := mkT) w
    have hlt := hs.lt
    have hb : Below w.heap.size w (w.alloc (.map #[] 0)) := below_box _
    have HC : Hid _ := copyT_any w.heap.size bs 0 n2 (fun _ => none) F (w.alloc (.map #[] 0)) hm (hs.below hb) hv (by omega)
    have HE : Hid (∀ w', (∃ n, MapIs w' w.heap.size mkT (fun x => (F x).or none) n) → (w.alloc (.map #[] 0)).grownBy w' (some w.heap.size) → WthT w none (fun _ => none) F (.returned (.map (some w.heap.size))) w') := fun w' h1 h2 =>
      ⟨_, rfl, h1, .inr ⟨rfl, Nat.le_refl _⟩, grown_and (grown_below hb none) h2 (fun x e => .inr (by injection e with e; omega))⟩
    generalize WthT w none (fun _ => none) F = AP at *
    clear hs hd hm hb hv
    have hmm := @run_makeMap Try.prog
    have qT : ∀ (w : World) (r : Option Nat), (binOp .eql 57 (.map r) (.map none)).run Try.prog w = .ok (.bool r.isNone) w := fun w r => run_eql_map_nil w _ _ _ r Try.underlying57
    go_enter Try.func32, Try.ntmps32
    go_wp2_with (go_at_call 52; refine Calls.mono HC.out ?_; rintro e w1 ⟨rfl, h1, h2⟩)
    exact HE.out _ h1 h2
  · have HC : Hid _ := copyT_any bd bs n1 n2 K F w hd hs hv (fun e => hne (by rw [e]))
    have HE : Hid (∀ w', (∃ n, MapIs w' bd mkT (fun x => (F x).or (K x)) n) → w.grownBy w' (some bd) → WthT w (some bd) K F (.returned (.map (some bd))) w') := fun w' h1 h2 => ⟨_, rfl, h1, .inl rfl, h2⟩
    generalize WthT w (some bd) K F = AP at *
    clear hs hd hv hne
    have hmm := @run_makeMap Try.prog
    have qT : ∀ (w : World) (r : Option Nat), (binOp .eql 57 (.map r) (.map none)).run Try.prog w = .ok (.bool r.isNone) w := fun w r => run_eql_map_nil w _ _ _ r Try.underlying57
    go_enter Try.func32, Try.ntmps32
    go_wp2_with (go_at_call 52; refine Calls.mono HC.out ?_; rintro e w1 ⟨rfl, h1, h2⟩)
    exact HE.out _ h1 h2
end Go.Proofs.Ytnnljdnaipjoiaa
