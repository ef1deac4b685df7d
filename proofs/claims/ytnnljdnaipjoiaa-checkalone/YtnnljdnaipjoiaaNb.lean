/- newBases. -/
import Derived.Test.YtnnljdnaipjoiaaLg
namespace Go.Proofs.Ytnnljdnaipjoiaa
set_option linter.unusedSimpArgs false
set_option linter.unusedVariables false
open Go.RowKit Go.MapKept
theorem two_cells {y : World} {b : Nat} {v0 v1 : Value} {t : TypeId} (h : y.heap[b]? = some (.cells #[v0, v1] t (0, 0))) : y.cell? ⟨b, 0, none⟩ = some v0 ∧ y.cell? ⟨b, 1, none⟩ = some v1 :=
  ⟨cell_of_row _ _ 0 _ _ _ h, cell_of_row _ _ 1 _ _ _ h⟩
theorem five_cells {y : World} {b : Nat} {v0 v1 v2 v3 v4 : Value} {t : TypeId} (h : y.heap[b]? = some (.cells #[v0, v1, v2, v3, v4] t (0, 0))) :
    y.cell? ⟨b, 0, none⟩ = some v0 ∧ y.cell? ⟨b, 1, none⟩ = some v1 ∧ y.cell? ⟨b, 2, none⟩ = some v2 ∧ y.cell? ⟨b, 3, none⟩ = some v3 ∧ y.cell? ⟨b, 4, none⟩ = some v4 :=
  ⟨cell_of_row _ _ 0 _ _ _ h, cell_of_row _ _ 1 _ _ _ h, cell_of_row _ _ 2 _ _ _ h, cell_of_row _ _ 3 _ _ _ h, cell_of_row _ _ 4 _ _ _ h⟩
/-- The world in which newBases and newRecords loop: a box for the partition, a new map. -/
def Nw0 (w : World) (q : PK) : World := (w.alloc (.cells #[.string q.1, .int .i64 q.2] 69)).alloc (.map #[] 0)
theorem Nw0.box (w : World) (q : PK) : (Nw0 w q).heap[w.heap.size]? = some (.cells #[.string q.1, .int .i64 q.2] 69 (0, 0)) := (Below.heap_alloc _ _ _ (by simp)).trans (heap_alloc_new w _)
theorem Nw0.size (w : World) (q : PK) : (Nw0 w q).heap.size = w.heap.size + 2 := by simp [Nw0]
theorem Nw0.map {α : Type} (mk : α → Value) (w : World) (q : PK) : MapIs (Nw0 w q) (w.heap.size + 1) mk (fun _ => none) 0 := by
  have := MapIs.made (mk := mk) (w.alloc (.cells #[.string q.1, .int .i64 q.2] 69))
  rw [show (w.alloc (.cells #[.string q.1, .int .i64 q.2] 69)).heap.size = w.heap.size + 1 by simp] at this
  exact this
theorem Nw0.below (w : World) (q : PK) : Below w.heap.size w (Nw0 w q) := (below_box _).trans ((below_box _).mono (by simp))
/-- What stays while they loop. -/
structure NwK (w : World) (q : PK) (p : Nat) (v1 v2 v3 : Option Nat) (S : LS) (a : Option Addr) (ss : List Bs) (y : World) : Prop where
  log : LogIs y p v1 v2 v3 S
  b0 : y.cell? ⟨w.heap.size, 0, none⟩ = some (.string q.1)
  b1 : y.cell? ⟨w.heap.size, 1, none⟩ = some (.int .i64 q.2)
  inn : BIn y a ss
  below : Below w.heap.size w y
  size : w.heap.size + 2 ≤ y.heap.size
theorem LogIs.kept {w w' : World} {p : Nat} {v1 v2 v3 : Option Nat} {S : LS} (h : LogIs w p v1 v2 v3 S) {b : Nat} (hg : w.grownBy w' (some b)) (h0 : p ≠ b) (h1 : v1 ≠ some b) (h2 : v2 ≠ some b) (h3 : v3 ≠ some b) : LogIs w' p v1 v2 v3 S :=
  ⟨(hg.block _ h.lt (by simpa using h0)).trans h.box, h.m1.keep (fun x e => hg.block x (h.m1.lt x e) (fun q => h1 (e.trans q))), h.m2.keep (fun x e => hg.block x (h.m2.lt x e) (fun q => h2 (e.trans q))), h.m3.keep (fun x e => hg.block x (h.m3.lt x e) (fun q => h3 (e.trans q))), h.d12, h.d13, h.d23⟩
theorem NwK.of {w y : World} {q : PK} {p : Nat} {v1 v2 v3 : Option Nat} {S : LS} {a : Option Addr} {ss : List Bs} (hl : LogIs w p v1 v2 v3 S) (hi : BIn w a ss) (hg : (Nw0 w q).grownBy y (some (w.heap.size + 1))) : NwK w q p v1 v2 v3 S a ss y := by
  have hb := Nw0.below w q
  have hl' := hl.below hb
  have hm : ∀ b, some (w.heap.size + 1) = some b → IsMap (Nw0 w q) b := fun b e => by
    injection e with e
    subst e
    exact (Nw0.map mkP w q).isMap
  have hlt := hl.lt
  have c := two_cells (Nw0.box w q)
  refine ⟨hl'.kept hg (by omega) ?_ ?_ ?_, cell_kept c.1 hg hm, cell_kept c.2 hg hm, (hi.below hb).kept hg hm, ?_, ?_⟩
  · intro e; have := hl.m1.lt _ e; omega
  · intro e; have := hl.m2.lt _ e; omega
  · intro e; have := hl.m3.lt _ e; omega
  · refine ⟨hg.os.trans hb.os, hg.tape.trans hb.tape, hg.output.trans hb.output, Nat.le_trans hb.size hg.size, fun k hk => (hg.block k (Nat.lt_of_lt_of_le hk hb.size) (fun e => by injection e with e; omega)).trans (hb.block k hk)⟩
  · have := hg.size
    rw [Nw0.size] at this
    exact this
theorem MT_drewN {w : World} {b : Nat} {F : TK → Option Int} (h : MT w b F) (n : Nat) : MT (w.drewN n) b F := by
  obtain ⟨m, hm⟩ := h
  exact ⟨m, hm.blk rfl⟩
theorem MS_drewN {w : World} {b : Nat} {F : SK → Option Rc} (h : MS w b F) (n : Nat) : MS (w.drewN n) b F := by
  obtain ⟨m, hm⟩ := h
  exact ⟨m, hm.blk rfl⟩
theorem grown_drewN {w w' : World} {r : Option Nat} (h : w.grownBy w' r) (n : Nat) : w.grownBy (w'.drewN n) r := ⟨h.os, h.tape, h.output, h.size, h.block⟩
set_option maxRecDepth 100000 in
theorem newBases_any (p : Nat) (v1 v2 v3 : Option Nat) (S : LS) (q : PK) (a : Option Addr) (cap : Nat) (ss : List Bs) (w : World) (hl : LogIs w p v1 v2 v3 S) (hi : BIn w a ss) :
    Calls Try.prog 29 #[.pointer (some ⟨p, 0, none⟩), mkP q, .slice a ss.length cap] w fun e w' => NrT w S.bs (batKs q (bsOf ss)) e w' := by
  have HW : Hid (∀ y, (Nw0 w q).grownBy y (some (w.heap.size + 1)) → NwK w q p v1 v2 v3 S a ss y) := fun y hg => NwK.of hl hi hg
  have HM0 : Hid (MT (Nw0 w q) (w.heap.size + 1) (fun _ => none)) := ⟨0, Nw0.map mkT w q⟩
  have HN : Hid (v3 ≠ some (w.heap.size + 1)) := fun e => by have := hl.m3.lt _ e; omega
  have HYES : Hid (∀ F y, agrs sameI S.bs (batKs q (bsOf ss)) (fun _ => none) = some F → MT y (w.heap.size + 1) F → Below w.heap.size w y → NrT w S.bs (batKs q (bsOf ss)) (.returned (.tuple #[.map (some (w.heap.size + 1)), .bool true])) y) := fun F y h1 h2 h3 => ⟨h3, .inl ⟨_, F, h1, rfl, h2, by omega⟩⟩
  have HNO : Hid (∀ k y, agrs sameI S.bs (batKs q ((bsOf ss).take k)) (fun _ => none) = none → Below w.heap.size w y → NrT w S.bs (batKs q (bsOf ss)) (.returned (.tuple #[.map none, .bool false])) y) := fun k y h1 h3 => by
    obtain ⟨r, hr⟩ := batKs_rest q (bsOf ss) k
    exact ⟨h3, .inr ⟨by rw [hr]; exact agrs_stop _ _ _ _ _ h1, rfl⟩⟩
  have hlen := hi.len
  unfold maxLen at hlen
  have hmm := @run_makeMap Try.prog
  have hW0 : Nw0 w q = (w.alloc (.cells #[.string q.1, .int .i64 q.2] 69)).alloc (.map #[] 0) := rfl
  have HNW : Hid (∀ y, (Nw0 w q).grownBy y (some (w.heap.size + 1)) → True) := fun y h => trivial
  clear hl hi
  obtain ⟨q0, q1⟩ := q
  simp only [mkP] at *
  generalize NrT w S.bs (batKs (q0, q1) (bsOf ss)) = AP at *
  go_enter Try.func29, Try.ntmps29
  go_wp2
  go_loopw [6, 13] (fun m i wr => ∃ (k : Nat) (F : TK → Option Int), k ≤ ss.length ∧ m = .map (some (w.heap.size + 1)) ∧ i = .int .i64 k ∧ agrs sameI S.bs (batKs (q0, q1) ((bsOf ss).take k)) (fun _ => none) = some F ∧ MT wr (w.heap.size + 1) F ∧ (Nw0 w (q0, q1)).grownBy wr (some (w.heap.size + 1))) (fun _ i _ => ss.length - (intOf i).toNat)
  case atStart => exact ⟨0, _, by omega, rfl, rfl, rfl, HM0.out, ⟨rfl, rfl, rfl, Nat.le_refl _, fun _ _ _ => rfl⟩⟩
  case round =>
    obtain ⟨k, F, hk, rfl, rfl, hag, hmt, hg⟩ := hrel
    have HG : Hid ((Nw0 w (q0, q1)).grownBy wr (some (w.heap.size + 1))) := hg
    have HAG : Hid (agrs sameI S.bs (batKs (q0, q1) ((bsOf ss).take k)) (fun _ => none) = some F) := hag
    have hnw := HW.out wr hg
    have HMT : Hid (MT wr (w.heap.size + 1) F) := hmt
    clear hag hmt hg
    by_cases hlt : k < ss.length
    · have hltI : (k : Int) < (ss.length : Int) := by omega
      obtain ⟨g, off, rfl, c0, c1, c2, c3, c4⟩ := hnw.inn.cells k hlt
      have HOK := hnw.inn.ok k hlt
      have HSN : Hid (batKs (q0, q1) ((bsOf ss).take (k + 1)) = batKs (q0, q1) ((bsOf ss).take k) ++ batK (q0, q1) (ss.getD k bsz).b) := by
        have := batKs_snoc (q0, q1) (bsOf ss) k (by rw [bsOf_len]; exact hlt)
        rwa [bsOf_get ss k hlt] at this
      have HWA : Hid (∀ o : Obj, NwK w (q0, q1) p v1 v2 v3 S (some ⟨g, off, none⟩) ss (wr.alloc o) ∧ MT (wr.alloc o) (w.heap.size + 1) F ∧ (Nw0 w (q0, q1)).grownBy (wr.alloc o) (some (w.heap.size + 1))) := fun o => by
        have hb : Below wr.heap.size wr (wr.alloc o) := below_box _
        have hg2 := grown_trans HG.out (grown_below hb (some (w.heap.size + 1)))
        obtain ⟨n, hm⟩ := HMT.out
        exact ⟨HW.out _ hg2, ⟨n, hm.below hb⟩, hg2⟩
      generalize (ss.getD k bsz).b = x at *
      generalize (ss.getD k bsz).a = xa at *
      generalize (ss.getD k bsz).cap = xc at *
      obtain ⟨xb, xs, xp, xq, xr⟩ := x
      simp only at c0 c1 c2 c3 c4
      have hbx := five_cells (heap_alloc_new wr (.cells #[.int .i64 xb, .int .i64 xs, .int .i64 xp, .int .i64 xq, .slice xa xr.length xc] 61))
      by_cases hp : 0 < xp
      · have hpd : decide (0 < xp) = true := decide_eq_true hp
        have HS2 : Hid (agrs sameI S.bs (batKs (q0, q1) ((bsOf ss).take (k + 1))) (fun _ => none) = agr sameI S.bs F (q0, q1, xp, xq) xb) := by
          show _ = _
          rw [HSN.out, agrs_app, HAG.out]
          simp only [batK, if_pos hp]
          exact agrs_one _ _ _ _ _
        have HY : Hid (∀ y, Below (wr.alloc (.cells #[.int .i64 xb, .int .i64 xs, .int .i64 xp, .int .i64 xq, .slice xa xr.length xc] 61)).heap.size (wr.alloc (.cells #[.int .i64 xb, .int .i64 xs, .int .i64 xp, .int .i64 xq, .slice xa xr.length xc] 61)) y → (y.cell? ⟨p, 2, none⟩ = some (.map v3) ∧ y.cell? ⟨w.heap.size, 0, none⟩ = some (.string q0) ∧ y.cell? ⟨w.heap.size, 1, none⟩ = some (.int .i64 q1) ∧ y.cell? ⟨wr.heap.size, 0, none⟩ = some (.int .i64 xb) ∧ y.cell? ⟨wr.heap.size, 2, none⟩ = some (.int .i64 xp) ∧ y.cell? ⟨wr.heap.size, 3, none⟩ = some (.int .i64 xq)) ∧ MOpt y v3 mkT (fun x => (S.bs x).map vI) ∧ MT y (w.heap.size + 1) F) := fun y hb => by
          obtain ⟨h1, ⟨n, h2⟩, h3⟩ := HWA.out (.cells #[.int .i64 xb, .int .i64 xs, .int .i64 xp, .int .i64 xq, .slice xa xr.length xc] 61)
          have hl := h1.log.below hb
          have hf := fun {o : Nat} {v : Value} {c : Nat} (hc : (wr.alloc (.cells #[.int .i64 xb, .int .i64 xs, .int .i64 xp, .int .i64 xq, .slice xa xr.length xc] 61)).cell? ⟨c, o, none⟩ = some v) => (hb.cell (World.block_lt_of_cell? _ _ hc)).trans hc
          exact ⟨⟨hl.cells.2.2.1, hf h1.b0, hf h1.b1, hf hbx.1, hf hbx.2.2.1, hf hbx.2.2.2.1⟩, hl.m3, n, h2.below hb⟩
        have hS0 := (HY.out _ (Below.refl _ _)).1
        have HC : Hid (∀ y, Below (wr.alloc (.cells #[.int .i64 xb, .int .i64 xs, .int .i64 xp, .int .i64 xq, .slice xa xr.length xc] 61)).heap.size (wr.alloc (.cells #[.int .i64 xb, .int .i64 xs, .int .i64 xp, .int .i64 xq, .slice xa xr.length xc] 61)) y → Calls Try.prog 49 #[.map v3, .map (some (w.heap.size + 1)), .agg #[.string q0, .int .i64 q1, .int .i64 xp, .int .i64 xq], .int .i64 xb] y fun e w2 => AgT y (w.heap.size + 1) S.bs F (q0, q1, xp, xq) xb e w2) := fun y hb => agrT_any v3 (w.heap.size + 1) S.bs F (q0, q1, xp, xq) xb y (HY.out y hb).2.1 (HY.out y hb).2.2
        have HG2 : Hid (∀ y z, Below (wr.alloc (.cells #[.int .i64 xb, .int .i64 xs, .int .i64 xp, .int .i64 xq, .slice xa xr.length xc] 61)).heap.size (wr.alloc (.cells #[.int .i64 xb, .int .i64 xs, .int .i64 xp, .int .i64 xq, .slice xa xr.length xc] 61)) y → y.grownBy z (some (w.heap.size + 1)) → (Nw0 w (q0, q1)).grownBy z (some (w.heap.size + 1))) := fun y z hb hg => grown_trans (grown_trans (HWA.out _).2.2 (grown_below hb _)) hg
        have HG3 : Hid (∀ z, (Nw0 w (q0, q1)).grownBy z (some (w.heap.size + 1)) → Below w.heap.size w z) := fun z hg => (HW.out z hg).below
        have HST : Hid (∀ z, (Nw0 w (q0, q1)).grownBy z (some (w.heap.size + 1)) → z.cell? ⟨p, 2, none⟩ = some (.map v3) ∧ z.cell? ⟨w.heap.size, 0, none⟩ = some (.string q0) ∧ z.cell? ⟨w.heap.size, 1, none⟩ = some (.int .i64 q1)) := fun z hg => by
          have h := HW.out z hg
          exact ⟨h.log.cells.2.2.1, h.b0, h.b1⟩
        have HBX : Hid (∀ z, (wr.alloc (.cells #[.int .i64 xb, .int .i64 xs, .int .i64 xp, .int .i64 xq, .slice xa xr.length xc] 61)).grownBy z (some (w.heap.size + 1)) → z.cell? ⟨wr.heap.size, 0, none⟩ = some (.int .i64 xb) ∧ z.cell? ⟨wr.heap.size, 2, none⟩ = some (.int .i64 xp) ∧ z.cell? ⟨wr.heap.size, 3, none⟩ = some (.int .i64 xq)) := fun z hg => by
          have hm : ∀ b, some (w.heap.size + 1) = some b → IsMap (wr.alloc (.cells #[.int .i64 xb, .int .i64 xs, .int .i64 xp, .int .i64 xq, .slice xa xr.length xc] 61)) b := fun b e => by
            injection e with e
            subst e
            obtain ⟨n, h2⟩ := (HWA.out (.cells #[.int .i64 xb, .int .i64 xs, .int .i64 xp, .int .i64 xq, .slice xa xr.length xc] 61)).2.1
            exact h2.isMap
          exact ⟨cell_kept hbx.1 hg hm, cell_kept hbx.2.2.1 hg hm, cell_kept hbx.2.2.2.1 hg hm⟩
        clear hnw hbx
        go_wp2
        go_region_held3 (fun y : World => y.cell? ⟨p, 2, none⟩ = some (.map v3) ∧ y.cell? ⟨w.heap.size, 0, none⟩ = some (.string q0) ∧ y.cell? ⟨w.heap.size, 1, none⟩ = some (.int .i64 q1) ∧ y.cell? ⟨wr.heap.size, 0, none⟩ = some (.int .i64 xb) ∧ y.cell? ⟨wr.heap.size, 2, none⟩ = some (.int .i64 xp) ∧ y.cell? ⟨wr.heap.size, 3, none⟩ = some (.int .i64 xq)) (first | exact hS2 | exact hS0) ((first
          | (go_at_call 49; refine (HC.out _ (by exact ⟨rfl, rfl, rfl, Nat.le_refl _, fun _ _ => rfl⟩)).mono ?_; rintro e w2 ⟨ok, F2, rfl, hag2, hmt2, hg2⟩; have hG2 := HG2.out _ w2 (by exact ⟨rfl, rfl, rfl, Nat.le_refl _, fun _ _ => rfl⟩) hg2; have hT := HST.out _ hG2; have hX := HBX.out w2 (by exact ⟨hg2.os, hg2.tape, hg2.output, hg2.size, hg2.block⟩); have hS2 := And.intro hT.1 (And.intro hT.2.1 (And.intro hT.2.2 hX)))))
        have HA2 : Hid (agr sameI S.bs F (q0, q1, xp, xq) xb = if ok = true then some F2 else none) := hag2
        clear hag2 hS0 hS2 hT hX
        cases ok with
        | false =>
          have HE := HNO.out (k + 1) w2 (by rw [HS2.out, HA2.out]; rfl) (HG3.out _ hG2)
          go_wp2
          exact HE
        | true =>
          have HE : Hid (agrs sameI S.bs (batKs (q0, q1) ((bsOf ss).take (k + 1))) (fun _ => none) = some F2) := by show _ = _; rw [HS2.out, HA2.out]; rfl
          go_wp2
          exact ⟨⟨k + 1, F2, by omega, rfl, by go_num, HE.out, hmt2, hG2⟩, by simp [intOf]; omega⟩
      · have hpd : decide (0 < xp) = false := decide_eq_false hp
        have HS2 : Hid (batKs (q0, q1) ((bsOf ss).take (k + 1)) = batKs (q0, q1) ((bsOf ss).take k)) := by
          show _ = _
          rw [HSN.out]
          simp [batK, hp]
        clear hnw
        go_wp2
        go_quiet (fail)
        go_wp2
        exact ⟨⟨k + 1, F, by omega, rfl, by go_num, by rw [HS2.out]; exact HAG.out, MT_drewN (HWA.out _).2.1 _, grown_drewN (HWA.out _).2.2 _⟩, by simp [intOf]; omega⟩
    · obtain rfl : k = ss.length := by omega
      have HE := HYES.out F wr (by have := HAG.out; rwa [List.take_of_length_le (by rw [bsOf_len]; omega)] at this) HMT.out hnw.below
      clear hnw
      go_wp2
      exact HE
end Go.Proofs.Ytnnljdnaipjoiaa
