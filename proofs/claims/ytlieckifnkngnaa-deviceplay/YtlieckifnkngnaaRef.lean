/- The document's own device in memory: rows of rows of bytes; off, Cut. -/
import Derived.Test.YtlieckifnkngnaaLsw
import Derived.BigQuiet
import Derived.Deep.QuietTactic
namespace Go.Proofs.Ytlieckifnkngnaa
set_option linter.unusedSimpArgs false
set_option linter.unusedVariables false
open Go.RowKit Go.MapKept
/-- A slice that leads to these bytes, in a block of G. -/
def Byt (w : World) (G : List Nat) (v : Value) (c : List Nat) : Prop :=
  ∃ b cap cs fr, v = .slice (some ⟨b, 0, none⟩) 512 cap ∧ b ∈ G ∧ w.heap[b]? = some (.cells cs 5 fr) ∧ Row w (some ⟨b, 0, none⟩) c ∧ c.length = 512
theorem Byt.blk {w w' : World} {G G' : List Nat} {v : Value} {c : List Nat} (h : Byt w G v c) (e : ∀ b ∈ G, ∀ cs fr, w.heap[b]? = some (.cells cs 5 fr) → w'.heap[b]? = w.heap[b]?) (hs : ∀ b ∈ G, b ∈ G') : Byt w' G' v c := by
  obtain ⟨b, cap, cs, fr, rfl, hb, hc, hr, hl⟩ := h
  have eb := e b hb cs fr hc
  refine ⟨b, cap, cs, fr, rfl, hs b hb, eb.trans hc, fun i hi => ?_, hl⟩
  obtain ⟨b', off, ea, hcell, hl2⟩ := hr i hi
  simp only [Option.some.injEq, Addr.mk.injEq, and_true] at ea
  obtain ⟨rfl, rfl⟩ := ea
  exact ⟨_, _, rfl, (cell_blk eb).trans hcell, hl2⟩
theorem owns_same' {B e : Nat} {w w' : World} {v : Value} {n : Nat} {xs : List Value} (h : w.ownsRow B e 1 v n xs) (q : ∀ b, v.ownBlock = some b → w'.heap[b]? = w.heap[b]?) : w'.ownsRow B e 1 v n xs := by
  refine ⟨h.1, ?_⟩
  rcases h.2 with a | ⟨g, cap, cur, rfl, hb, hg, r⟩
  · exact .inl a
  · exact .inr ⟨g, cap, cur, rfl, hb, (q g rfl).trans hg, r⟩
theorem owns_blk' {B e : Nat} {w : World} {v : Value} {n : Nat} {xs : List Value} (h : w.ownsRow B e 1 v n xs) {b : Nat} (q : v.ownBlock = some b) : ∃ cur, w.heap[b]? = some (.cells cur e (0, 0)) ∧ B ≤ b := by
  rcases h.2 with ⟨rfl, _⟩ | ⟨g, cap, cur, rfl, hb, hg, r⟩
  · cases q
  · cases q; exact ⟨cur, hg, hb⟩
theorem owns_cell' {B e : Nat} {w : World} {g n cap : Nat} {xs : List Value} (h : w.ownsRow B e 1 (.slice (some ⟨g, 0, none⟩) n cap) n xs) (i : Nat) (hi : i < n) : w.cell? ⟨g, i, none⟩ = some (xs.getD i undef) := by
  have hl : i < xs.length := by rw [h.1]; omega
  have := h.cells (g := g) rfl i _ (show xs[i]? = some (xs.getD i undef) by simp [List.getD, hl])
  simpa [Addr.add_lit] using this
theorem owns_free' {B e : Nat} {w : World} {g n cap : Nat} {xs : List Value} (h : w.ownsRow B e 1 (.slice (some ⟨g, 0, none⟩) n cap) n xs) (i : Nat) : w.frozen? ⟨g, i, none⟩ = false := by
  rcases h.2 with ⟨q, _⟩ | ⟨g', cap', cur, q, _, hg, _⟩
  · cases q
  · cases q; exact frozen_of_row _ _ _ _ _ hg
/-- The cut, in the document's counting. -/
def LastOk (d : Dv) (last : Int) : Prop :=
  if d.cut then 0 ≤ last ∧ last ≤ 2305843009213693952 ∧ (d.left = (last - d.ops).toNat ∨ (1125899906842624 ≤ d.left + d.ops ∧ 1125899906842624 ≤ last)) else last = -1
theorem LastOk.on {d : Dv} {last : Int} (h : LastOk d last) (ho : d.ops < 1000000) : d.on = !(decide (0 ≤ last ∧ last < (d.ops : Int) + 1)) := by
  unfold LastOk at h
  unfold Dv.on
  cases hc : d.cut with
  | false =>
    rw [hc] at h
    simp only [Bool.false_eq_true, if_false] at h
    subst h
    simp
  | true =>
    rw [hc, if_pos rfl] at h
    obtain ⟨h0, h1, h2⟩ := h
    by_cases hl : d.left = 0
    · have : last < (d.ops : Int) + 1 := by rcases h2 with a | a <;> omega
      simp [hl, h0, this]
    · have : ¬ last < (d.ops : Int) + 1 := by rcases h2 with a | a <;> omega
      simp [hl, this]
theorem LastOk.tick {d : Dv} {last : Int} (h : LastOk d last) (ho : d.ops < 1000000) : LastOk d.tick last := by
  unfold LastOk at h ⊢
  cases hc : d.cut with
  | false =>
    rw [hc] at h
    simpa [Dv.tick, hc] using h
  | true =>
    rw [hc, if_pos rfl] at h
    obtain ⟨h0, h1, h2⟩ := h
    simp only [Dv.tick, hc, if_true]
    refine ⟨h0, h1, ?_⟩
    rcases h2 with q | q
    · left; omega
    · by_cases hl : d.left = 0
      · left; omega
      · right; omega
theorem LastOk.cut {d : Dv} (k : Int) (ho : d.ops < 1000000) : LastOk (d.cutAt k) ((d.ops : Int) + min (max k 0) 1152921504606846976) := by
  unfold LastOk
  simp only [Dv.cutAt, if_true]
  refine ⟨by omega, by omega, ?_⟩
  by_cases h : k ≤ 1152921504606846976
  · left; omega
  · right; omega
theorem LastOk.congr {d d' : Dv} {last : Int} (h : LastOk d last) (h1 : d'.cut = d.cut) (h2 : d'.left = d.left) (h3 : d'.ops = d.ops) : LastOk d' last := by
  unfold LastOk at *
  rw [h1, h2, h3]; exact h
structure RefAt (B : Nat) (w : World) (q gB cB gP cP : Nat) (bs ps : List Value) (rs : Nat → List Value) (G : List Nat) (d : Dv) (last : Int) : Prop where
  cells : w.heap[q]? = some (.cells #[.slice (some ⟨gB, 0, none⟩) d.n cB, .slice (some ⟨gP, 0, none⟩) d.n cP, .int .i64 (d.ops : Int), .int .i64 last] 64 (0, 0))
  bo : w.ownsRow B 39 1 (.slice (some ⟨gB, 0, none⟩) d.n cB) d.n bs
  po : w.ownsRow B 61 1 (.slice (some ⟨gP, 0, none⟩) d.n cP) d.n ps
  ro : ∀ k, k < d.n → w.ownsRow B 39 1 (ps.getD k undef) (d.pend k).length (rs k)
  by' : ∀ k, k < d.n → Byt w G (bs.getD k undef) (d.base k)
  pby : ∀ k j, k < d.n → j < (d.pend k).length → Byt w G ((rs k).getD j undef) ((d.pend k).getD j [])
  ap : ∀ i j, i < d.n → j < d.n → i ≠ j → ∀ b, (ps.getD i undef).ownBlock = some b → (ps.getD j undef).ownBlock ≠ some b
  nb : ∀ i, i < d.n → (ps.getD i undef).ownBlock ≠ some gB
  gin : q ∈ G ∧ gB ∈ G ∧ gP ∈ G ∧ ∀ i, i < d.n → ∀ b, (ps.getD i undef).ownBlock = some b → b ∈ G
  glt : ∀ x ∈ G, B ≤ x ∧ x < w.heap.size
  ok : d.Ok
  lk : LastOk d last
section
variable {B : Nat} {w w' : World} {q gB cB gP cP : Nat} {bs ps : List Value} {rs : Nat → List Value} {G : List Nat} {d : Dv} {last : Int}
theorem RefAt.blk (h : RefAt B w q gB cB gP cP bs ps rs G d last) (e : Same G w w') (hs : w.heap.size ≤ w'.heap.size) : RefAt B w' q gB cB gP cP bs ps rs G d last := by
  obtain ⟨g1, g2, g3, g4⟩ := h.gin
  refine ⟨(e q g1).trans h.cells, owns_same' h.bo fun b hb => ?_, owns_same' h.po fun b hb => ?_, fun k hk => owns_same' (h.ro k hk) fun b hb => e b (g4 k hk b hb), fun k hk => (h.by' k hk).blk (fun b hb _ _ _ => e b hb) (fun _ x => x), fun k j hk hj => (h.pby k j hk hj).blk (fun b hb _ _ _ => e b hb) (fun _ x => x), h.ap, h.nb, h.gin, fun x hx => ⟨(h.glt x hx).1, by have := (h.glt x hx).2; omega⟩, h.ok, h.lk⟩
  · cases hb; exact e gB g2
  · cases hb; exact e gP g3
theorem RefAt.below (h : RefAt B w q gB cB gP cP bs ps rs G d last) (hb : Below w.heap.size w w') : RefAt B w' q gB cB gP cP bs ps rs G d last := h.blk (fun x hx => hb.block x (h.glt x hx).2) hb.size
theorem RefAt.c (h : RefAt B w q gB cB gP cP bs ps rs G d last) : w.cell? ⟨q, 0, none⟩ = some (.slice (some ⟨gB, 0, none⟩) d.n cB) ∧ w.cell? ⟨q, 1, none⟩ = some (.slice (some ⟨gP, 0, none⟩) d.n cP) ∧ w.cell? ⟨q, 2, none⟩ = some (.int .i64 (d.ops : Int)) ∧ w.cell? ⟨q, 3, none⟩ = some (.int .i64 last) := by
  refine ⟨?_, ?_, ?_, ?_⟩ <;> rw [cell_of_row _ _ _ _ _ _ h.cells] <;> rfl
theorem RefAt.fr (h : RefAt B w q gB cB gP cP bs ps rs G d last) (i : Nat) : w.frozen? ⟨q, i, none⟩ = false := frozen_of_row _ _ _ _ _ h.cells
/-- The struct's counters turn. -/
theorem RefAt.count {d' : Dv} {last' : Int} (h : RefAt B w q gB cB gP cP bs ps rs G d last) (hw : w'.heap[q]? = some (.cells #[.slice (some ⟨gB, 0, none⟩) d.n cB, .slice (some ⟨gP, 0, none⟩) d.n cP, .int .i64 (d'.ops : Int), .int .i64 last'] 64 (0, 0))) (ho : ∀ k, k ≠ q → w'.heap[k]? = w.heap[k]?) (hz : w'.heap.size = w.heap.size)
    (hn : d'.n = d.n) (hb : d'.base = d.base) (hp : d'.pend = d.pend) (hok : d'.Ok) (hlk : LastOk d' last') : RefAt B w' q gB cB gP cP bs ps rs G d' last' := by
  have nq : ∀ b cs e fr, e ≠ 64 → w.heap[b]? = some (.cells cs e fr) → b ≠ q := fun b cs e fr he hb2 eq => by
    rw [eq, h.cells] at hb2
    injection hb2 with t
    injection t with _ t2
    exact he t2.symm
  have rb : ∀ (e : Nat) (v : Value) (n : Nat) (xs : List Value), e ≠ 64 → w.ownsRow B e 1 v n xs → w'.ownsRow B e 1 v n xs := fun e v n xs he hown => owns_same' hown fun b hb2 => by
    obtain ⟨cur, hc, _⟩ := owns_blk' hown hb2
    exact ho b (nq b _ _ _ he hc)
  refine ⟨by rw [hn]; exact hw, by rw [hn]; exact rb 39 _ _ _ (by decide) h.bo, by rw [hn]; exact rb 61 _ _ _ (by decide) h.po, ?_, ?_, ?_, by rw [hn]; exact h.ap, by rw [hn]; exact h.nb, by rw [hn]; exact h.gin, fun x hx => by rw [hz]; exact h.glt x hx, hok, hlk⟩
  · rw [hn, hp]
    exact fun k hk => rb 39 _ _ _ (by decide) (h.ro k hk)
  · rw [hn, hb]
    exact fun k hk => (h.by' k hk).blk (fun b _ cs fr hc => ho b (nq b _ _ _ (by decide) hc)) (fun _ x => x)
  · rw [hn, hp]
    exact fun k j hk hj => (h.pby k j hk hj).blk (fun b _ cs fr hc => ho b (nq b _ _ _ (by decide) hc)) (fun _ x => x)
end
def offB (last ops : Int) : Bool := decide (0 ≤ last ∧ last < ops + 1)
set_option maxHeartbeats 1000000 in
theorem off_any {B : Nat} {w : World} {q gB cB gP cP : Nat} {bs ps : List Value} {rs : Nat → List Value} {G : List Nat} {d : Dv} {last : Int} (h : RefAt B w q gB cB gP cP bs ps rs G d last) (ho : d.ops < 1000000) :
    Calls Try.prog 45 #[.pointer (some ⟨q, 0, none⟩)] w fun e w' => e = .returned (.bool (!d.on)) ∧ RefAt B w' q gB cB gP cP bs ps rs G d.tick last ∧ Keeps G w w' := by
  obtain ⟨c0, c1, c2, c3⟩ := h.c
  have fr := h.fr
  have hon := h.lk.on ho
  have hoI : (d.ops : Int) < 1000000 := by omega
  have HR : Hid (∀ w', w'.heap = (w.setCell ⟨q, 2, none⟩ (.int .i64 ((d.ops : Int) + 1))).heap → RefAt B w' q gB cB gP cP bs ps rs G d.tick last) := fun w' hw => by
    refine h.count ?_ (fun k hk => ?_) (by rw [hw]; simp [World.setCell]) rfl rfl rfl (h.ok.tick ho) (h.lk.tick ho)
    · rw [hw, heap_setCell_same _ _ _ _ _ _ h.cells]
      simp [Dv.tick]
    · rw [hw]; exact heap_setCell_other _ _ _ _ hk
  have HK : Hid (Keeps G w (w.setCell ⟨q, 2, none⟩ (.int .i64 ((d.ops : Int) + 1)))) := (Keeps.refl G w).setCell _ _ (.inl h.gin.1)
  have c3' : (w.setCell ⟨q, 2, none⟩ (.int .i64 ((d.ops : Int) + 1))).cell? ⟨q, 3, none⟩ = some (.int .i64 last) := by
    rw [cell_of_row _ _ _ _ _ _ (heap_setCell_same _ _ _ _ _ _ h.cells)]
    rfl
  have c2' : (w.setCell ⟨q, 2, none⟩ (.int .i64 ((d.ops : Int) + 1))).cell? ⟨q, 2, none⟩ = some (.int .i64 ((d.ops : Int) + 1)) := by
    rw [cell_of_row _ _ _ _ _ _ (heap_setCell_same _ _ _ _ _ _ h.cells)]
    rfl
  have HO : Hid ((!d.on) = decide (0 ≤ last ∧ last < (d.ops : Int) + 1)) := by show _ = _; rw [hon]; simp
  clear h hon
  by_cases hl : 0 ≤ last
  · go_enter Try.func45, Try.ntmps45
    go_wp2
    go_quiet (fail)
    go_wp2
    go_ret
    refine ⟨retB (by rw [HO.out]; simp [hl]), HR.out _ rfl, ?_⟩
    exact ⟨HK.out.os, HK.out.tape, HK.out.output, HK.out.size, HK.out.block⟩
  · have hld : decide (0 ≤ last) = false := by simpa using hl
    go_enter Try.func45, Try.ntmps45
    go_wp2
    go_quiet (fail)
    go_wp2
    go_ret
    refine ⟨retB (by rw [HO.out]; simp; omega), HR.out _ rfl, ?_⟩
    exact ⟨HK.out.os, HK.out.tape, HK.out.output, HK.out.size, HK.out.block⟩
set_option maxHeartbeats 1000000 in
theorem refCut_any {B : Nat} {w : World} {q gB cB gP cP : Nat} {bs ps : List Value} {rs : Nat → List Value} {G : List Nat} {d : Dv} {last : Int} (h : RefAt B w q gB cB gP cP bs ps rs G d last) (ho : d.ops < 1000000) (k : Int) (hk : k ≤ 9223372036854775807) :
    Calls Try.prog 31 #[.pointer (some ⟨q, 0, none⟩), .int .i64 k] w fun e w' => (∃ v, e = .returned v) ∧ (∃ last', RefAt B w' q gB cB gP cP bs ps rs G (d.cutAt k) last') ∧ Keeps G w w' := by
  obtain ⟨c0, c1, c2, c3⟩ := h.c
  have fr := h.fr
  have hoI : (d.ops : Int) < 1000000 := by omega
  have HOK : Hid ((d.cutAt k).Ok) := ⟨h.ok.n1, h.ok.n2, h.ok.ops, by simp [Dv.cutAt]; omega, h.ok.base, h.ok.pend, h.ok.count⟩
  have fin : ∀ z : Int, z = min (max k 0) 1152921504606846976 → (∃ last', RefAt B (w.setCell ⟨q, 3, none⟩ (.int .i64 ((d.ops : Int) + z))) q gB cB gP cP bs ps rs G (d.cutAt k) last') ∧ Keeps G w (w.setCell ⟨q, 3, none⟩ (.int .i64 ((d.ops : Int) + z))) := fun z hz => by
    refine ⟨⟨_, h.count ?_ (fun k hk => heap_setCell_other _ _ _ _ hk) (by simp [World.setCell]) rfl rfl rfl HOK.out (LastOk.cut k ho)⟩, (Keeps.refl G w).setCell _ _ (.inl h.gin.1)⟩
    rw [heap_setCell_same _ _ _ _ _ _ h.cells, hz]
    simp [Dv.cutAt]
  have HF : Hid _ := fin
  clear fin h
  by_cases hk0 : k < 0
  · go_enter Try.func31, Try.ntmps31
    go_wp2
    go_end0
    exact ⟨⟨_, rfl⟩, HF.out 0 (by omega)⟩
  · go_enter Try.func31, Try.ntmps31
    go_wp2
    go_end0
    exact ⟨⟨_, rfl⟩, HF.out (min k 1152921504606846976) (by omega)⟩
end Go.Proofs.Ytlieckifnkngnaa
