/- The document's partition: Append. -/
import Derived.Test.YtnnljdnaipjoiaaQs
import Derived.Test.YtnnljdnaipjoiaaLat
import Derived.Deep.DeepCutAuto
import Derived.Deep.CutRange
namespace Go.Proofs.Ytnnljdnaipjoiaa
set_option linter.unusedSimpArgs false
set_option linter.unusedVariables false
open Go.RowKit
/-- The segments behind an append: one batch more in the last one, or in a new one. -/
def Grown (L : List Sg) (N : Int) (b : Ba) (L' : List Sg) : Prop := ∃ nb : Bs, nb.b = b ∧
  ((∃ a c, L' = L.set (L.length - 1) ⟨(lastS L).g, (lastS L).base, a, c, (lastS L).ss ++ [nb]⟩) ∨ ∃ g a c, L' = L ++ [⟨g, N, a, c, [nb]⟩])
/-- What Append leaves. -/
def AppE (B p : Nat) (seg : Int) (r off cap : Nat) (L : List Sg) (prod seq : Int) (rs : List Rc) (y : World) (e : Ending) (z : World) : Prop :=
  (∃ x q : Int, e = .returned (.tuple #[.int .i64 x, .int .i64 q])) ∧ PKeep B y z ∧
  (PIs B p seg r off cap L z ∨ ∃ r' off' cap' L', Grown L (nextS (lastS L)) ⟨nextS (lastS L), rs.length, prod, seq, numL rs⟩ L' ∧ PIs B p seg r' off' cap' L' z)
/-- Where the row of a new last segment goes. -/
structure AtLast (B p : Nat) (seg : Int) (L : List Sg) (N : Int) (x : Nat) (y : World) (s : Value) (z : World) (r off cap : Nat) (L1 : List Sg) : Prop where
  is : PIs B p seg r off cap L1 z
  ptr : s = .pointer (some ⟨(lastS L1).g, 0, none⟩)
  lst : L1 = L ∨ ∃ g, L1 = L ++ [⟨g, N, none, 0, []⟩]
  keep : PKeep B y z
  few : (lastS L1).ss.length < 100
  off : ∀ q, (lastS L1).v.ownBlock = some q → q ≠ x
theorem PIs.last {B p : Nat} {seg : Int} {r off cap : Nat} {L : List Sg} {y : World} (h : PIs B p seg r off cap L y) : SgIs B y (lastS L) := h.seg (L.length - 1) (by have := h.pos; omega)
theorem five_kept {y z : World} {x : Nat} {cs : Array Value} {r : Option Nat} (h : y.heap[x]? = some (.cells cs 61 (0, 0))) (hg : y.grownBy z r) (hr : r ≠ some x) : z.heap[x]? = some (.cells cs 61 (0, 0)) := blk_step h hg hr
theorem grown_of {L : List Sg} {N : Int} {L1 : List Sg} {nb : Bs} {a : Option Addr} {c : Nat} (h : L1 = L ∨ ∃ g, L1 = L ++ [⟨g, N, none, 0, []⟩]) : Grown L N nb.b (L1.set (L1.length - 1) ⟨(lastS L1).g, (lastS L1).base, a, c, (lastS L1).ss ++ [nb]⟩) := by
  refine ⟨nb, rfl, ?_⟩
  rcases h with rfl | ⟨g, rfl⟩
  · exact .inl ⟨a, c, rfl⟩
  · refine .inr ⟨g, a, c, ?_⟩
    rw [last_snoc]
    simp
theorem wpList_push {w : World} {ops : Array Oper} {rest : List Oper} {o : Oper} {a : Act} {Q : Exit → Act → World → Prop} (hw : Region.wanted o (yielded ops a.tmps) = true) (s x : Operand) (ho : o.op = .call { callee := .builtin .append, args := #[s, x], argTypes := #[97, 97] })
    {B p : Nat} {seg : Int} {r off cap : Nat} {L : List Sg} (h : PIs B p seg r off cap L w) (hs : a.eval s = .slice (some ⟨r, off, none⟩) L.length cap) (ad : Addr) (c g' : Nat) (hx : a.eval x = .slice (some ad) 1 c) (hc : w.cell? ad = some (.pointer (some ⟨g', 0, none⟩)))
    (K : ∀ r' off' cap' row z, Push B w L g' r' off' cap' row z → wpList Try.prog ops Q rest (a.put o.dst (.slice (some ⟨r', off', none⟩) (L.length + 1) cap')) z) : wpList Try.prog ops Q (o :: rest) a w := by
  refine BigFrame.wpList_want hw fun K0 hK => ?_
  obtain ⟨r', off', cap', row, z, h1, h2⟩ := run_push h o.type ad c g' hc
  unfold Oper.wp execOp
  simp only [ho, resolve, invoke, builtin, Sem.run_bind, Sem.run_pure, Result.andThen_ok, List.map_toArray, List.map_cons, List.map_nil, hs, hx, h1]
  exact hK _ _ (K r' off' cap' row z h2)
theorem Push.box {B p : Nat} {seg : Int} {r off cap : Nat} {L : List Sg} {y z : World} {g' r' off' cap' : Nat} {row : Option Nat} (k : Push B y L g' r' off' cap' row z) (h : PIs B p seg r off cap L y) : z.cell? ⟨p, 5, none⟩ = some (.slice (some ⟨r, off, none⟩) L.length cap) ∧ z.frozen? ⟨p, 5, none⟩ = false := by
  have hb := blk_step h.box k.gr (fun e => absurd ((k.ro _ e).2.same ⟨_, h.box⟩) (by decide))
  exact ⟨cell_of_row _ _ 5 _ _ _ hb, frozen_cells hb⟩
/-- A new last segment. -/
theorem push_seg {B p : Nat} {seg : Int} {r off cap : Nat} {L : List Sg} {y z : World} {g' r' off' cap' : Nat} {row : Option Nat} {N : Int} (h : PIs B p seg r off cap L y) (k : Push B y L g' r' off' cap' row z)
    (hg : y.heap[g']? = some (.cells #[.int .i64 N, .slice none 0 0] 96 (0, 0))) (hB : B ≤ g') (hd : ∀ i, i < L.length → (L.getD i sgz).g < g') (hl : L.length < 100) {x : Nat} {cs : Array Value} (hx : y.heap[x]? = some (.cells cs 61 (0, 0))) {nb : Bs} (hb : BatIs y nb) :
    PIs B p seg r' off' cap' (L ++ [⟨g', N, none, 0, []⟩]) (z.setCell ⟨p, 5, none⟩ (.slice (some ⟨r', off', none⟩) (L.length + 1) cap')) ∧ PKeep B y (z.setCell ⟨p, 5, none⟩ (.slice (some ⟨r', off', none⟩) (L.length + 1) cap')) ∧
      (z.setCell ⟨p, 5, none⟩ (.slice (some ⟨r', off', none⟩) (L.length + 1) cap')).heap[x]? = some (.cells cs 61 (0, 0)) ∧ BatIs (z.setCell ⟨p, 5, none⟩ (.slice (some ⟨r', off', none⟩) (L.length + 1) cap')) nb := by
  have hs : SgIs B z ⟨g', N, none, 0, []⟩ := ⟨hB, blk_step hg k.gr (fun e => absurd ((k.ro _ e).2.same ⟨_, hg⟩) (by decide)), ⟨rfl, .inl ⟨rfl, rfl⟩⟩, fun i hi => by simp at hi, by simp⟩
  obtain ⟨q1, q2⟩ := h.pushed k hs rfl (fun i hi e => by have := hd i hi; simp only at e; omega) hl
  have hbz := blk_step h.box k.gr (fun e => absurd ((k.ro _ e).2.same ⟨_, h.box⟩) (by decide))
  have hg2 := grown_set z p 5 (.slice (some ⟨r', off', none⟩) (L.length + 1) cap')
  have hT : ∀ b, some p = some b → HasT z b 99 := fun b e => by injection e with e; subst e; exact ⟨_, hbz⟩
  have hxz := blk_step hx k.gr (fun e => absurd ((k.ro _ e).2.same ⟨_, hx⟩) (by decide))
  exact ⟨q1, q2, blk_step hxz hg2 (fun e => absurd ((hT _ e).same ⟨_, hxz⟩) (by decide)), (hb.grown k.gr (fun b e => (k.ro b e).2) (by decide)).grown hg2 hT (by decide)⟩
set_option maxHeartbeats 4000000 in
set_option maxRecDepth 100000 in
theorem append_any {B p : Nat} {seg : Int} {r off cap : Nat} {L : List Sg} {y : World} (h : PIs B p seg r off cap L y) (prod seq : Int) (a : Option Addr) (c : Nat) (rs : List Rc) (hr : RRow y a rs) (hr1 : 1 ≤ rs.length) (hr2 : rs.length ≤ 2)
    (ht : ∀ b ∈ flatB L, Tame b.b) (hl : L.length < 100) (hf : (lastS L).ss.length < 100) :
    Calls Try.prog 17 #[.pointer (some ⟨p, 0, none⟩), .int .i64 prod, .int .i64 seq, .slice a rs.length c] y fun e z => AppE B p seg r off cap L prod seq rs y e z := by
  have HP : Hid (∀ z, Below y.heap.size y z → PIs B p seg r off cap L z) := fun z hb => h.below hb
  have HN : Hid (Calls Try.prog 20 #[.pointer (some ⟨p, 0, none⟩)] y fun e z => e = .returned (.int .i64 (nextS (lastS L))) ∧ Below y.heap.size y z) := next_any h (fun i hi => ht _ (last_mem h.pos hi))
  have HF : Hid (∀ z, Below y.heap.size y z → Calls Try.prog 39 #[.int .i64 (nextS (lastS L)), .int .i64 prod, .int .i64 seq, .slice a rs.length c] z fun e w => FrE (nextS (lastS L)) prod seq rs z e w) := fun z hb => fresh_any _ prod seq a c rs z (hr.below hb) hr1 hr2
  have HLA : Hid (∀ z, Below y.heap.size y z → SgIs B z (lastS L)) := fun z hb => (h.below hb).last
  have HLO : Hid (∀ q, (lastS L).v.ownBlock = some q → q < y.heap.size) := fun q hq => (own_hasT h.last.own q hq).lt
  have HLG : Hid (∀ i, i < L.length → (L.getD i sgz).g < y.heap.size) := fun i hi => (Array.getElem?_eq_some_iff.1 (h.seg i hi).box).1
  have HBy : Hid (B ≤ y.heap.size) := h.B_le
  have hpos := h.pos
  have HNL : Hid ((numL rs).length = rs.length) := numL_len rs
  have HAE : Hid (∀ z x q, Below y.heap.size y z → AppE B p seg r off cap L prod seq rs y (.returned (.tuple #[.int .i64 x, .int .i64 q])) z) := fun z x q hb => ⟨⟨x, q, rfl⟩, PKeep.of_below hb, .inl (h.below hb)⟩
  generalize HNX : nextS (lastS L) = N at *
  clear hr ht
  go_enter Try.func17, Try.ntmps17
  go_upto_region 1 with fail
  go_cut [10, 11] (fun s10 s11 wc => ∃ q : Int, s11 = .int .i64 q ∧ (q ≠ 0 ∧ Below y.heap.size y wc ∨ q = 0 ∧ ∃ (w2 : World) (a2 : Option Addr) (c2 : Nat), Below y.heap.size y w2 ∧ w2.ownsRow y.heap.size 48 6 (.slice a2 rs.length c2) rs.length (rcv (numL rs)) ∧ s10 = .pointer (some ⟨w2.heap.size, 0, none⟩) ∧ wc = w2.alloc (.cells #[.int .i64 N, .int .i64 (rs.length : Int), .int .i64 prod, .int .i64 seq, .slice a2 rs.length c2] 61)))
  case first =>
    go_wp2_with (first
      | (go_at_call 20; refine Calls.mono HN.out ?_; rintro e w1 ⟨rfl, hb1⟩)
      | (go_at_call 39; refine (HF.out _ hb1).mono ?_; rintro e w2 ⟨hb2, hq⟩; have hb2' := hb1.trans (hb2.mono hb1.size); rcases hq with ⟨q, hq0, rfl⟩ | ⟨a2, c2, rfl, hown⟩))
    · go_meet
      case rel => exact ⟨q, rfl, .inl ⟨hq0, hb2'.alloc hb2'.size _⟩⟩
    · go_meet
      case rel => exact ⟨0, rfl, .inr ⟨rfl, w2, a2, c2, hb2', own_keep hown (Below.refl _ _) hb1.size, rfl, rfl⟩⟩
  case rest =>
    obtain ⟨q, rfl, ⟨hq0, hb⟩ | ⟨rfl, w2, a2, c2, hb2, hown, rfl, rfl⟩⟩ := hcut
    · go_wp2
      go_ret2
      exact HAE.out _ _ _ hb
    · have HB3 : Hid (Below y.heap.size y (w2.alloc (.cells #[.int .i64 N, .int .i64 (rs.length : Int), .int .i64 prod, .int .i64 seq, .slice a2 rs.length c2] 61))) := hb2.alloc hb2.size _
      have HX3 : Hid ((w2.alloc (.cells #[.int .i64 N, .int .i64 (rs.length : Int), .int .i64 prod, .int .i64 seq, .slice a2 rs.length c2] 61)).heap[w2.heap.size]? = some (.cells #[.int .i64 N, .int .i64 (rs.length : Int), .int .i64 prod, .int .i64 seq, .slice a2 rs.length c2] 61 (0, 0))) := heap_alloc_new w2 _
      have HN3 : Hid ((w2.alloc (.cells #[.int .i64 N, .int .i64 (rs.length : Int), .int .i64 prod, .int .i64 seq, .slice a2 rs.length c2] 61)).ownsRow y.heap.size 48 6 (.slice a2 rs.length c2) rs.length (rcv (numL rs))) := own_keep hown (below_box _) (Nat.le_refl _)
      have hyx : y.heap.size ≤ w2.heap.size := hb2.size
      clear hown hb2
      generalize w2.alloc (.cells #[.int .i64 N, .int .i64 (rs.length : Int), .int .i64 prod, .int .i64 seq, .slice a2 rs.length c2] 61) = w3 at *
      generalize w2.heap.size = x at *
      have HBT : Hid (∀ z, Below w3.heap.size w3 z → BatIs z ⟨⟨N, (rs.length : Int), prod, seq, numL rs⟩, a2, c2⟩) := fun z hz => by
        have h5 := own_keep HN3.out hz (Nat.zero_le _)
        refine ⟨?_, by simp only; rw [HNL.out]; exact hr2⟩
        simp only
        rw [HNL.out]
        exact h5
      have HX : Hid (∀ z, Below w3.heap.size w3 z → z.heap[x]? = some (.cells #[.int .i64 N, .int .i64 (rs.length : Int), .int .i64 prod, .int .i64 seq, .slice a2 rs.length c2] 61 (0, 0))) := fun z hz => (hz.block _ (Array.getElem?_eq_some_iff.1 HX3.out).1).trans HX3.out
      have HBY : Hid (∀ z, Below w3.heap.size w3 z → Below y.heap.size y z) := fun z hz => HB3.out.trans (hz.mono HB3.out.size)
      clear HX3 HN3 HN HF
      have hp3 := HP.out w3 HB3.out
      have hat := hp3.at (L.length - 1) (by omega)
      have hgl : (L.getD (L.length - 1) sgz).g = (lastS L).g := rfl
      rw [hgl] at hat
      have c5 := hp3.cells.2.2.2.2.2.1
      have hln := hp3.len
      clear hp3 hgl
      have hw1 : IntKind.i64.wrap ((L.length : Int) - 1) = ((L.length - 1 : Nat) : Int) := by rw [IntKind.wrap_i64]; omega
      have hi1 : (0 : Int) ≤ ((L.length - 1 : Nat) : Int) := by omega
      have hi2 : ((L.length - 1 : Nat) : Int) < (L.length : Int) := by omega
      obtain ⟨n, HL⟩ : ∃ n, Hid (L.length - 1 = n) := ⟨_, rfl⟩
      rw [HL.out] at hat hw1 hi1 hi2
      have hS0 : w3.drew.cell? ⟨p, 5, none⟩ = some (.slice (some ⟨r, off, none⟩) L.length cap) ∧ w3.drew.cell? ⟨r, off + n, none⟩ = some (.pointer (some ⟨(lastS L).g, 0, none⟩)) := ⟨c5, hat⟩
      go_wp2
      go_region_held3 (fun z : World => z.cell? ⟨p, 5, none⟩ = some (.slice (some ⟨r, off, none⟩) L.length cap) ∧ z.cell? ⟨r, off + n, none⟩ = some (.pointer (some ⟨(lastS L).g, 0, none⟩))) (exact hS0) (fail)
      clear hS0 c5 hat hw1 hi1 hi2
      have HLS : Hid (∀ z, Below w3.heap.size w3 z → SgIs B z (lastS L)) := fun z hz => HLA.out z (HBY.out z hz)
      have HSZ : Hid (∀ z, Below w3.heap.size w3 z → Calls Try.prog 34 #[.pointer (some ⟨(lastS L).g, 0, none⟩)] z fun e w => IntE e ∧ Below z.heap.size z w) := fun z hz => segSize_l (HLS.out z hz)
      have HS2 : Hid (∀ z, Below w3.heap.size w3 z → Calls Try.prog 40 #[.agg #[.int .i64 N, .int .i64 (rs.length : Int), .int .i64 prod, .int .i64 seq, .slice a2 rs.length c2]] z fun e w => IntE e ∧ Below z.heap.size z w) := fun z hz => by
        have hbt := HBT.out z hz
        have h5 := size_l N (rs.length : Int) prod seq a2 c2 (numL rs) z hbt.row.1 hbt.len
        rw [HNL.out] at h5
        exact h5
      have HCE : Hid (∀ z, Below w3.heap.size w3 z → z.cell? ⟨(lastS L).g, 1, none⟩ = some (.slice (lastS L).a (lastS L).ss.length (lastS L).c) ∧ (z.cell? ⟨x, 0, none⟩ = some (.int .i64 N) ∧ z.cell? ⟨x, 1, none⟩ = some (.int .i64 (rs.length : Int)) ∧ z.cell? ⟨x, 2, none⟩ = some (.int .i64 prod) ∧ z.cell? ⟨x, 3, none⟩ = some (.int .i64 seq) ∧ z.cell? ⟨x, 4, none⟩ = some (.slice a2 rs.length c2)) ∧ z.cell? ⟨p, 0, none⟩ = some (.int .i64 seg)) := fun z hz => ⟨(HLS.out z hz).cells.2, five_cells (HX.out z hz), (HP.out z (HBY.out z hz)).cells.1⟩
      have hbd : Below w3.heap.size w3 w3.drew := (Below.refl _ _).drew
      go_upto_region 5 with fail
      go_cut [55] (fun s55 wc => ∃ b, s55 = .bool b ∧ Below w3.heap.size w3 wc)
      case first =>
        by_cases h0 : 0 < (lastS L).ss.length
        · have h0I : (0 : Int) < ((lastS L).ss.length : Int) := by omega
          have hS0 := HCE.out w3.drew.drew hbd.drew
          go_region_held3 (fun z : World => z.cell? ⟨(lastS L).g, 1, none⟩ = some (.slice (lastS L).a (lastS L).ss.length (lastS L).c) ∧ (z.cell? ⟨x, 0, none⟩ = some (.int .i64 N) ∧ z.cell? ⟨x, 1, none⟩ = some (.int .i64 (rs.length : Int)) ∧ z.cell? ⟨x, 2, none⟩ = some (.int .i64 prod) ∧ z.cell? ⟨x, 3, none⟩ = some (.int .i64 seq) ∧ z.cell? ⟨x, 4, none⟩ = some (.slice a2 rs.length c2)) ∧ z.cell? ⟨p, 0, none⟩ = some (.int .i64 seg)) (first | exact hS2 | exact hS1 | exact hS0) ((first
            | (go_at_call 34; refine (HSZ.out _ hbd.drew).mono ?_; rintro e w5 ⟨⟨n1, rfl⟩, hb5⟩; have hb5' := hbd.drew.trans (hb5.mono hbd.drew.size); have hS1 := HCE.out w5 hb5')
            | (go_at_call 40; refine (HS2.out _ hb5').mono ?_; rintro e w6 ⟨⟨n2, rfl⟩, hb6⟩; have hb6' := hb5'.trans (hb6.mono hb5'.size); have hS2 := HCE.out w6 hb6')))
          go_wp2
          go_meet
          case rel => exact ⟨_, rfl, hb6'⟩
        · have h0N : (lastS L).ss.length = 0 := by omega
          have h0I : ¬ (0 : Int) < ((lastS L).ss.length : Int) := by omega
          have hS0 := (HCE.out w3.drew.drew hbd.drew).1
          refine wp_region_lat (fun z : World => z.cell? ⟨(lastS L).g, 1, none⟩ = some (.slice (lastS L).a (lastS L).ss.length (lastS L).c)) 18 (by kernel_rfl) hS0 (fun hHeld => ?_)
          refine lat_take 0 (v := ?_) rfl (by kernel_rfl) (by kernel_rfl) (by kernel_rfl) (by kernel_rfl) (fun _ _ _ h => h) (by rfl) ?_ (by assumption) ?_
          rotate_left
          · (intro w hSw; (try dsimp only at hSw); go_simp <;> with_reducible rfl)
          try simp only [Act.put, List.setIfInBounds_toArray, List.set_cons_zero, List.set_cons_succ]
          refine lat_take 1 (v := ?_) rfl (by kernel_rfl) (by kernel_rfl) (by kernel_rfl) (by kernel_rfl) (fun _ _ _ h => h) (by rfl) ?_ (by assumption) ?_
          rotate_left
          · (intro w hSw; (try dsimp only at hSw); go_simp <;> with_reducible rfl)
          try simp only [Act.put, List.setIfInBounds_toArray, List.set_cons_zero, List.set_cons_succ]
          refine lat_take 2 (v := ?_) rfl (by kernel_rfl) (by kernel_rfl) (by kernel_rfl) (by kernel_rfl) (fun _ _ _ h => h) (by rfl) ?_ (by assumption) ?_
          rotate_left
          · (intro w hSw; (try dsimp only at hSw); go_simp <;> with_reducible rfl)
          try simp only [Act.put, List.setIfInBounds_toArray, List.set_cons_zero, List.set_cons_succ]
          refine lat_take 3 (v := ?_) rfl (by kernel_rfl) (by kernel_rfl) (by kernel_rfl) (by kernel_rfl) (fun _ _ _ h => h) (by rfl) ?_ (by assumption) ?_
          rotate_left
          · (intro w hSw; (try dsimp only at hSw); go_simp <;> with_reducible rfl)
          try simp only [Act.put, List.setIfInBounds_toArray, List.set_cons_zero, List.set_cons_succ]
          refine lat_take 4 (v := ?_) rfl (by kernel_rfl) (by kernel_rfl) (by kernel_rfl) (by kernel_rfl) (fun _ _ _ h => h) (by rfl) ?_ (by assumption) ?_
          rotate_left
          · (intro w hSw; (try dsimp only at hSw); go_simp <;> with_reducible rfl)
          try simp only [Act.put, List.setIfInBounds_toArray, List.set_cons_zero, List.set_cons_succ]
          refine lat_take 5 (v := ?_) rfl (by kernel_rfl) (by kernel_rfl) (by kernel_rfl) (by kernel_rfl) (fun _ _ _ h => h) (by rfl) ?_ (by assumption) ?_
          rotate_left
          · (intro w hSw; (try dsimp only at hSw); go_simp <;> with_reducible rfl)
          try simp only [Act.put, List.setIfInBounds_toArray, List.set_cons_zero, List.set_cons_succ]
          refine lat_take 6 (v := ?_) rfl (by kernel_rfl) (by kernel_rfl) (by kernel_rfl) (by kernel_rfl) (fun _ _ _ h => h) (by rfl) ?_ (by assumption) ?_
          rotate_left
          · (intro w hSw; (try dsimp only at hSw); go_simp <;> with_reducible rfl)
          try simp only [Act.put, List.setIfInBounds_toArray, List.set_cons_zero, List.set_cons_succ]
          refine lat_skip 7 rfl (by kernel_rfl) (by kernel_rfl) (by kernel_rfl) (by kernel_rfl) (fun _ _ _ h => h) (by rfl) (by assumption) ?_
          try simp only [Act.put, List.setIfInBounds_toArray, List.set_cons_zero, List.set_cons_succ]
          refine lat_skip 8 rfl (by kernel_rfl) (by kernel_rfl) (by kernel_rfl) (by kernel_rfl) (fun _ _ _ h => h) (by rfl) (by assumption) ?_
          try simp only [Act.put, List.setIfInBounds_toArray, List.set_cons_zero, List.set_cons_succ]
          refine lat_skip 9 rfl (by kernel_rfl) (by kernel_rfl) (by kernel_rfl) (by kernel_rfl) (fun _ _ _ h => h) (by rfl) (by assumption) ?_
          try simp only [Act.put, List.setIfInBounds_toArray, List.set_cons_zero, List.set_cons_succ]
          refine lat_skip 10 rfl (by kernel_rfl) (by kernel_rfl) (by kernel_rfl) (by kernel_rfl) (fun _ _ _ h => h) (by rfl) (by assumption) ?_
          try simp only [Act.put, List.setIfInBounds_toArray, List.set_cons_zero, List.set_cons_succ]
          refine lat_skip 11 rfl (by kernel_rfl) (by kernel_rfl) (by kernel_rfl) (by kernel_rfl) (fun _ _ _ h => h) (by rfl) (by assumption) ?_
          try simp only [Act.put, List.setIfInBounds_toArray, List.set_cons_zero, List.set_cons_succ]
          refine lat_skip 12 rfl (by kernel_rfl) (by kernel_rfl) (by kernel_rfl) (by kernel_rfl) (fun _ _ _ h => h) (by rfl) (by assumption) ?_
          try simp only [Act.put, List.setIfInBounds_toArray, List.set_cons_zero, List.set_cons_succ]
          refine lat_skip 13 rfl (by kernel_rfl) (by kernel_rfl) (by kernel_rfl) (by kernel_rfl) (fun _ _ _ h => h) (by rfl) (by assumption) ?_
          try simp only [Act.put, List.setIfInBounds_toArray, List.set_cons_zero, List.set_cons_succ]
          refine lat_skip 14 rfl (by kernel_rfl) (by kernel_rfl) (by kernel_rfl) (by kernel_rfl) (fun _ _ _ h => h) (by rfl) (by assumption) ?_
          try simp only [Act.put, List.setIfInBounds_toArray, List.set_cons_zero, List.set_cons_succ]
          refine lat_skip 15 rfl (by kernel_rfl) (by kernel_rfl) (by kernel_rfl) (by kernel_rfl) (fun _ _ _ h => h) (by rfl) (by assumption) ?_
          try simp only [Act.put, List.setIfInBounds_toArray, List.set_cons_zero, List.set_cons_succ]
          refine lat_skip 16 rfl (by kernel_rfl) (by kernel_rfl) (by kernel_rfl) (by kernel_rfl) (fun _ _ _ h => h) (by rfl) (by assumption) ?_
          try simp only [Act.put, List.setIfInBounds_toArray, List.set_cons_zero, List.set_cons_succ]
          refine lat_skip 17 rfl (by kernel_rfl) (by kernel_rfl) (by kernel_rfl) (by kernel_rfl) (fun _ _ _ h => h) (by rfl) (by assumption) ?_
          try simp only [Act.put, List.setIfInBounds_toArray, List.set_cons_zero, List.set_cons_succ]
          refine lat_last 18 rfl (by kernel_rfl) (by decide) (by kernel_rfl) (by rfl) (fun K hK => ?_)
          go_simp
          refine hK.out _ _ ?_
          clear hK
          try simp only [Act.put, List.setIfInBounds_toArray, List.set_cons_zero, List.set_cons_succ]
          go_wp2
          go_meet
          case rel => exact ⟨_, rfl, hbd.drew⟩
      case rest =>
        obtain ⟨b, rfl, hbc⟩ := hcut
        clear HSZ HS2 hbd
        generalize wc = w7 at *
        go_upto_if 55 with fail
        go_cut [12] (fun s12 wc => ∃ (r' off' cap' : Nat) (L1 : List Sg), AtLast B p seg L N x y s12 wc r' off' cap' L1 ∧ wc.heap[x]? = some (.cells #[.int .i64 N, .int .i64 (rs.length : Int), .int .i64 prod, .int .i64 seq, .slice a2 rs.length c2] 61 (0, 0)) ∧ BatIs wc ⟨⟨N, (rs.length : Int), prod, seq, numL rs⟩, a2, c2⟩)
        case first =>
          cases b
          · go_wp2
            go_meet
            case rel => exact ⟨r, off, cap, L, ⟨HP.out w7 (HBY.out w7 hbc), rfl, .inl rfl, PKeep.of_below (HBY.out w7 hbc), hf, fun q hq => by have := HLO.out q hq; omega⟩, HX.out w7 hbc, HBT.out w7 hbc⟩
          · obtain ⟨f0, f1, f2, f3, f4⟩ := five_cells (HX.out w7 hbc)
            have hb8 := hbc.alloc hbc.size (.cells #[.int .i64 N, .slice none 0 0] 96)
            have hb9 : Below w3.heap.size w3 ((w7.alloc (.cells #[.int .i64 N, .slice none 0 0] 96)).alloc (.cells #[.pointer (some ⟨w7.heap.size, 0, none⟩)] 94)) := hb8.alloc hb8.size (.cells #[.pointer (some ⟨w7.heap.size, 0, none⟩)] 94)
            have hp9 := HP.out ((w7.alloc (.cells #[.int .i64 N, .slice none 0 0] 96)).alloc (.cells #[.pointer (some ⟨w7.heap.size, 0, none⟩)] 94)) (HBY.out _ hb9)
            have HP9 : Hid (PIs B p seg r off cap L ((w7.alloc (.cells #[.int .i64 N, .slice none 0 0] 96)).alloc (.cells #[.pointer (some ⟨w7.heap.size, 0, none⟩)] 94))) := hp9
            have c5 := (HP.out w7 (HBY.out w7 hbc)).cells.2.2.2.2.2.1
            have hplt := World.block_lt_of_cell? _ _ c5
            have hxlt := World.block_lt_of_cell? _ _ f0
            simp only at hplt hxlt
            have HCE9 : Hid (((w7.alloc (.cells #[.int .i64 N, .slice none 0 0] 96)).alloc (.cells #[.pointer (some ⟨w7.heap.size, 0, none⟩)] 94)).cell? ⟨w7.heap.size + 1, 0, none⟩ = some (.pointer (some ⟨w7.heap.size, 0, none⟩))) := by
              have h5 := heap_alloc_new (w7.alloc (.cells #[.int .i64 N, .slice none 0 0] 96)) (.cells #[.pointer (some ⟨w7.heap.size, 0, none⟩)] 94)
              rw [show (w7.alloc (.cells #[.int .i64 N, .slice none 0 0] 96)).heap.size = w7.heap.size + 1 by simp] at h5
              exact cell_of_row _ _ 0 _ _ _ h5
            have HSE9 : Hid (∀ (r' off' cap' : Nat) (row : Option Nat) (z : World), Push B ((w7.alloc (.cells #[.int .i64 N, .slice none 0 0] 96)).alloc (.cells #[.pointer (some ⟨w7.heap.size, 0, none⟩)] 94)) L w7.heap.size r' off' cap' row z → _) := fun r' off' cap' row z k => push_seg (N := N) hp9 k ((Below.heap_alloc _ _ _ (by simp)).trans (heap_alloc_new w7 (.cells #[.int .i64 N, .slice none 0 0] 96))) (Nat.le_trans HBy.out (Nat.le_trans HB3.out.size hbc.size)) (fun i hi => Nat.lt_of_lt_of_le (HLG.out i hi) (Nat.le_trans HB3.out.size hbc.size)) hl (HX.out _ hb9) (HBT.out _ hb9)
            clear hp9
            go_wp2_with (at_builtin; refine wpList_push (by rfl) _ _ rfl HP9.out rfl ⟨w7.heap.size + 1, 0, none⟩ 1 w7.heap.size rfl HCE9.out ?_; intro r' off' cap' row z hk; have HSE := HSE9.out r' off' cap' row z hk; obtain ⟨z5, zf⟩ := hk.box HP9.out; clear c5 f0 f1 f2 f3 f4)
            go_meet
            case rel =>
              obtain ⟨q1, q2, q3, q4⟩ := HSE
              exact ⟨r', off', cap', L ++ [⟨w7.heap.size, N, none, 0, []⟩], ⟨q1, by rw [last_snoc], .inr ⟨_, rfl⟩, (PKeep.of_below (HBY.out _ hb9)).trans q2, by rw [last_snoc]; simp, by rw [last_snoc]; intro q hq; cases hq⟩, q3, q4⟩
        case rest =>
          obtain ⟨r', off', cap', L1, ⟨his, hptr, hlst, hkeep, hfew, hoff⟩, hx, hbt⟩ := hcut
          subst hptr
          clear HCE HLS HX HBT HBY HLA HP HB3 hbc HAE
          generalize wc = w8 at *
          have hxlt := (Array.getElem?_eq_some_iff.1 hx).1
          have hsg := his.last
          have HBX : Hid (BCells (w8.alloc (.cells #[.int .i64 N, .int .i64 (rs.length : Int), .int .i64 prod, .int .i64 seq, .slice a2 rs.length c2] 61)) (some ⟨w8.heap.size, 0, none⟩) [⟨⟨N, (rs.length : Int), prod, seq, numL rs⟩, a2, c2⟩]) := by
            have h5 := brow_new w8 ⟨⟨N, (rs.length : Int), prod, seq, numL rs⟩, a2, c2⟩
            simp only [Bs.cells, bcells] at h5
            rw [HNL.out] at h5
            exact h5
          have HFIN : Hid (∀ (z : World) (a' : Option Addr) (c' : Nat), Below w8.heap.size w8 z → ∀ z', z.grownBy z' (lastS L1).v.ownBlock → z'.ownsRow B 61 5 (.slice a' ((lastS L1).ss.length + 1) c') ((lastS L1).ss.length + 1) (bcv ((lastS L1).ss ++ [⟨⟨N, (rs.length : Int), prod, seq, numL rs⟩, a2, c2⟩])) → ((Value.slice a' ((lastS L1).ss.length + 1) c').ownBlock = (lastS L1).v.ownBlock ∨ (Value.slice a' ((lastS L1).ss.length + 1) c').ownBlock = some z.heap.size) →
              (z'.cell? ⟨(lastS L1).g, 1, none⟩ = some (.slice (lastS L1).a (lastS L1).ss.length (lastS L1).c) ∧ (z'.cell? ⟨x, 0, none⟩ = some (.int .i64 N) ∧ z'.cell? ⟨x, 1, none⟩ = some (.int .i64 (rs.length : Int)) ∧ z'.cell? ⟨x, 2, none⟩ = some (.int .i64 prod) ∧ z'.cell? ⟨x, 3, none⟩ = some (.int .i64 seq) ∧ z'.cell? ⟨x, 4, none⟩ = some (.slice a2 rs.length c2))) ∧ z'.frozen? ⟨(lastS L1).g, 1, none⟩ = false ∧ (z'.setCell ⟨(lastS L1).g, 1, none⟩ (.slice a' ((lastS L1).ss.length + 1) c')).cell? ⟨x, 0, none⟩ = some (.int .i64 N) ∧ ∀ v q, AppE B p seg r off cap L prod seq rs y (.returned (.tuple #[.int .i64 v, .int .i64 q])) (z'.setCell ⟨(lastS L1).g, 1, none⟩ (.slice a' ((lastS L1).ss.length + 1) c'))) := fun z a' c' hb z' hg ho hw => by
            have hz := his.below hb
            have hla := hz.last
            have hxz := (hb.block x hxlt).trans hx
            have hx' := blk_step hxz hg (fun e => hoff x e rfl)
            have hb' := blk_step hla.box hg (fun e => absurd ((own_hasT hla.own _ e).same ⟨_, hla.box⟩) (by decide))
            obtain ⟨g1, g2⟩ := hz.grow hg ho hw (hbt.below hb) hfew
            have hg2 := grown_set z' (lastS L1).g 1 (.slice a' ((lastS L1).ss.length + 1) c')
            have hx'' := blk_step hx' hg2 (fun e => by injection e with e; subst e; rw [hb'] at hx'; simp at hx')
            refine ⟨⟨cell_of_row _ _ 1 _ _ _ hb', five_cells hx'⟩, frozen_cells hb', cell_of_row _ _ 0 _ _ _ hx'', fun v q => ⟨⟨v, q, rfl⟩, hkeep.trans ((PKeep.of_below hb).trans g2), .inr ⟨r', off', cap', _, ?_, g1⟩⟩⟩
            have := grown_of (nb := ⟨⟨N, (rs.length : Int), prod, seq, numL rs⟩, a2, c2⟩) (a := a') (c := c') hlst
            rw [HNX]
            exact this
          have HOW : Hid (∀ z, Below w8.heap.size w8 z → z.ownsRow B 61 5 (lastS L1).v (lastS L1).ss.length (bcv (lastS L1).ss)) := fun z hb => ((his.below hb).last).own
          have HB8 : Hid (B ≤ w8.heap.size) := his.B_le
          have hS0 : w8.drew.cell? ⟨(lastS L1).g, 1, none⟩ = some (.slice (lastS L1).a (lastS L1).ss.length (lastS L1).c) ∧ (w8.drew.cell? ⟨x, 0, none⟩ = some (.int .i64 N) ∧ w8.drew.cell? ⟨x, 1, none⟩ = some (.int .i64 (rs.length : Int)) ∧ w8.drew.cell? ⟨x, 2, none⟩ = some (.int .i64 prod) ∧ w8.drew.cell? ⟨x, 3, none⟩ = some (.int .i64 seq) ∧ w8.drew.cell? ⟨x, 4, none⟩ = some (.slice a2 rs.length c2)) := ⟨hsg.cells.2, five_cells hx⟩
          have hS1 : (w8.alloc (.cells #[.int .i64 N, .int .i64 (rs.length : Int), .int .i64 prod, .int .i64 seq, .slice a2 rs.length c2] 61)).drew.cell? ⟨(lastS L1).g, 1, none⟩ = some (.slice (lastS L1).a (lastS L1).ss.length (lastS L1).c) ∧ ((w8.alloc (.cells #[.int .i64 N, .int .i64 (rs.length : Int), .int .i64 prod, .int .i64 seq, .slice a2 rs.length c2] 61)).drew.cell? ⟨x, 0, none⟩ = some (.int .i64 N) ∧ (w8.alloc (.cells #[.int .i64 N, .int .i64 (rs.length : Int), .int .i64 prod, .int .i64 seq, .slice a2 rs.length c2] 61)).drew.cell? ⟨x, 1, none⟩ = some (.int .i64 (rs.length : Int)) ∧ (w8.alloc (.cells #[.int .i64 N, .int .i64 (rs.length : Int), .int .i64 prod, .int .i64 seq, .slice a2 rs.length c2] 61)).drew.cell? ⟨x, 2, none⟩ = some (.int .i64 prod) ∧ (w8.alloc (.cells #[.int .i64 N, .int .i64 (rs.length : Int), .int .i64 prod, .int .i64 seq, .slice a2 rs.length c2] 61)).drew.cell? ⟨x, 3, none⟩ = some (.int .i64 seq) ∧ (w8.alloc (.cells #[.int .i64 N, .int .i64 (rs.length : Int), .int .i64 prod, .int .i64 seq, .slice a2 rs.length c2] 61)).drew.cell? ⟨x, 4, none⟩ = some (.slice a2 rs.length c2)) := ⟨(hsg.below (below_box _)).cells.2, five_cells (((below_box (w := w8) (.cells #[.int .i64 N, .int .i64 (rs.length : Int), .int .i64 prod, .int .i64 seq, .slice a2 rs.length c2] 61)).block x hxlt).trans hx)⟩
          clear hsg hbt hx his hlst hkeep hoff
          unfold Sg.v at HOW HFIN
          generalize (lastS L1).g = lg at *
          generalize (lastS L1).a = la at *
          generalize (lastS L1).c = lc at *
          obtain ⟨lss, HLSS⟩ : ∃ l, Hid ((lastS L1).ss = l) := ⟨_, rfl⟩
          rw [HLSS.out] at HOW HFIN hfew hS0 hS1
          have HLN : Hid ((lss ++ [(Bs.mk (Ba.mk N (rs.length : Int) prod seq (numL rs)) a2 c2)]).length = lss.length + 1) := by show _ = _; simp
          have HLL : Hid (lss.length < 100) := hfew
          obtain ⟨ln, HLQ⟩ : ∃ n, Hid (lss.length = n) := ⟨_, rfl⟩
          have HOW2 : Hid (∀ z, Below w8.heap.size w8 z → z.ownsRow B 61 5 (.slice la ln lc) lss.length (bcv lss)) := by have := HOW.out; rw [HLQ.out] at this; show ∀ z, _; rw [HLQ.out]; exact this
          rw [HLQ.out] at HFIN HLN hS0 hS1
          clear HOW hfew HLSS
          go_upto_region 8 with fail
          refine wp_region_lat (fun z : World => z.cell? ⟨lg, 1, none⟩ = some (.slice la ln lc) ∧ (z.cell? ⟨x, 0, none⟩ = some (.int .i64 N) ∧ z.cell? ⟨x, 1, none⟩ = some (.int .i64 (rs.length : Int)) ∧ z.cell? ⟨x, 2, none⟩ = some (.int .i64 prod) ∧ z.cell? ⟨x, 3, none⟩ = some (.int .i64 seq) ∧ z.cell? ⟨x, 4, none⟩ = some (.slice a2 rs.length c2))) 10 (by kernel_rfl) hS0 (fun hHeld => ?_)
          refine lat_take 0 (v := ?_) rfl (by kernel_rfl) (by kernel_rfl) (by kernel_rfl) (by kernel_rfl) (fun _ _ _ h => h) (by rfl) ?_ (by assumption) ?_
          rotate_left
          · (intro w hSw; (try dsimp only at hSw); (try obtain ⟨q0, q1, q2, q3, q4, q5⟩ := hSw); go_simp <;> with_reducible rfl)
          try simp only [Act.put, List.setIfInBounds_toArray, List.set_cons_zero, List.set_cons_succ]
          refine lat_take 1 (v := ?_) rfl (by kernel_rfl) (by kernel_rfl) (by kernel_rfl) (by kernel_rfl) (fun _ _ _ h => h) (by rfl) ?_ (by assumption) ?_
          rotate_left
          · (intro w hSw; (try dsimp only at hSw); (try obtain ⟨q0, q1, q2, q3, q4, q5⟩ := hSw); go_simp <;> with_reducible rfl)
          try simp only [Act.put, List.setIfInBounds_toArray, List.set_cons_zero, List.set_cons_succ]
          refine lat_take 2 (v := ?_) rfl (by kernel_rfl) (by kernel_rfl) (by kernel_rfl) (by kernel_rfl) (fun _ _ _ h => h) (by rfl) ?_ (by assumption) ?_
          rotate_left
          · (intro w hSw; (try dsimp only at hSw); (try obtain ⟨q0, q1, q2, q3, q4, q5⟩ := hSw); go_simp <;> with_reducible rfl)
          try simp only [Act.put, List.setIfInBounds_toArray, List.set_cons_zero, List.set_cons_succ]
          refine lat_take 3 (v := ?_) rfl (by kernel_rfl) (by kernel_rfl) (by kernel_rfl) (by kernel_rfl) (fun _ _ _ h => h) (by rfl) ?_ (by assumption) ?_
          rotate_left
          · (intro w hSw; (try dsimp only at hSw); (try obtain ⟨q0, q1, q2, q3, q4, q5⟩ := hSw); go_simp <;> with_reducible rfl)
          try simp only [Act.put, List.setIfInBounds_toArray, List.set_cons_zero, List.set_cons_succ]
          refine lat_take 4 (v := ?_) rfl (by kernel_rfl) (by kernel_rfl) (by kernel_rfl) (by kernel_rfl) (fun _ _ _ h => h) (by rfl) ?_ (by assumption) ?_
          rotate_left
          · (intro w hSw; (try dsimp only at hSw); (try obtain ⟨q0, q1, q2, q3, q4, q5⟩ := hSw); go_simp <;> with_reducible rfl)
          try simp only [Act.put, List.setIfInBounds_toArray, List.set_cons_zero, List.set_cons_succ]
          refine lat_take 5 (v := ?_) rfl (by kernel_rfl) (by kernel_rfl) (by kernel_rfl) (by kernel_rfl) (fun _ _ _ h => h) (by rfl) ?_ (by assumption) ?_
          rotate_left
          · (intro w hSw; (try dsimp only at hSw); (try obtain ⟨q0, q1, q2, q3, q4, q5⟩ := hSw); go_simp <;> with_reducible rfl)
          try simp only [Act.put, List.setIfInBounds_toArray, List.set_cons_zero, List.set_cons_succ]
          refine lat_one 6 rfl (by kernel_rfl) (by decide) (by rfl) (fun K hK => ?_)
          go_simp
          refine hK.out _ _ hS1 (fun hHeld2 => ?_)
          clear hK
          try simp only [Act.put, List.setIfInBounds_toArray, List.set_cons_zero, List.set_cons_succ]
          have hbz : Below w8.heap.size w8 (w8.alloc (.cells #[.int .i64 N, .int .i64 (rs.length : Int), .int .i64 prod, .int .i64 seq, .slice a2 rs.length c2] 61)).drew := (below_box _).drew
          have HBX2 : Hid (BCells (w8.alloc (.cells #[.int .i64 N, .int .i64 (rs.length : Int), .int .i64 prod, .int .i64 seq, .slice a2 rs.length c2] 61)).drew (some ⟨w8.heap.size, 0, none⟩) [⟨⟨N, (rs.length : Int), prod, seq, numL rs⟩, a2, c2⟩]) := HBX.out
          clear HBX hS0 hS1
          generalize (w8.alloc (.cells #[.int .i64 N, .int .i64 (rs.length : Int), .int .i64 prod, .int .i64 seq, .slice a2 rs.length c2] 61)).drew = w9 at *
          refine lat_one 7 rfl (by kernel_rfl) (by decide) (by rfl) (fun K hK => ?_)
          refine wp_app_bats _ _ rfl B (.slice la ln lc) lss [⟨⟨N, (rs.length : Int), prod, seq, numL rs⟩, a2, c2⟩] rfl (HOW2.out w9 hbz) (Nat.le_trans HB8.out hbz.size) _ _ _ rfl rfl HBX2.out (fun e => by cases e) (by have := HLL.out; simp; omega) ?_
          intro v' w10 hown' hg' hwh
          obtain ⟨a', c', hv, _, _⟩ := owns_bslice hown'
          rw [HLN.out] at hv hown'
          subst hv
          obtain ⟨hS10, hfz, hx12, hfin⟩ := HFIN.out w9 a' c' hbz w10 hg' hown' hwh
          refine hK.out _ _ hS10 (fun hHeld3 => ?_)
          clear hK
          try simp only [Act.put, List.setIfInBounds_toArray, List.set_cons_zero, List.set_cons_succ]
          refine lat_take 8 (v := ?_) rfl (by kernel_rfl) (by kernel_rfl) (by kernel_rfl) (by kernel_rfl) (fun _ _ _ h => h) (by rfl) ?_ (by assumption) ?_
          rotate_left
          · (intro w hSw; (try dsimp only at hSw); (try obtain ⟨q0, q1, q2, q3, q4, q5⟩ := hSw); go_simp <;> with_reducible rfl)
          try simp only [Act.put, List.setIfInBounds_toArray, List.set_cons_zero, List.set_cons_succ]
          refine lat_take 9 (v := ?_) rfl (by kernel_rfl) (by kernel_rfl) (by kernel_rfl) (by kernel_rfl) (fun _ _ _ h => h) (by rfl) ?_ (by assumption) ?_
          rotate_left
          · (intro w hSw; (try dsimp only at hSw); (try obtain ⟨q0, q1, q2, q3, q4, q5⟩ := hSw); go_simp <;> with_reducible rfl)
          try simp only [Act.put, List.setIfInBounds_toArray, List.set_cons_zero, List.set_cons_succ]
          refine lat_last 10 rfl (by kernel_rfl) (by decide) (by kernel_rfl) (by rfl) (fun K hK => ?_)
          obtain ⟨q0, _⟩ := hS10
          go_simp
          refine hK.out _ _ ?_
          clear hK
          try simp only [Act.put, List.setIfInBounds_toArray, List.set_cons_zero, List.set_cons_succ]
          clear q0 hHeld3 hHeld2
          generalize w10.setCell ⟨lg, 1, none⟩ (.slice a' (ln + 1) c') = w11 at *
          go_wp2
          go_ret2
          exact hfin _ _
end Go.Proofs.Ytnnljdnaipjoiaa
