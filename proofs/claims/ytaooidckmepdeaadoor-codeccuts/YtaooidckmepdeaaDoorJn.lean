/- join, head, text. -/
import Derived.Test.YtaooidckmepdeaaDoorApp
import Derived.Test.YtaooidckmepdeaaDoorVar
import Derived.Test.YtaooidckmepdeaaDoorCk
import Derived.OwnWalk
import Derived.Laws.IdiomStrings
namespace Go.Proofs.YtaooidckmepdeaaDoor
set_option linter.unusedSimpArgs false
set_option linter.unusedVariables false
open Go.RowKit
/-- Pieces one behind the other. -/
def flat (ps : List (Option Addr × Nat × List Nat)) : List Nat := (ps.map (·.2.2)).flatten
def pz : Option Addr × Nat × List Nat := (none, 0, [])
theorem flat_step (ps : List (Option Addr × Nat × List Nat)) (k : Nat) (h : k < ps.length) : flat (ps.take (k + 1)) = flat (ps.take k) ++ (ps.getD k pz).2.2 := by
  unfold flat
  rw [List.take_succ_eq_append_getElem h, List.map_append, List.flatten_append]
  simp [List.getD, h]
theorem flat_le (ps : List (Option Addr × Nat × List Nat)) (k : Nat) : (flat (ps.take k)).length ≤ (flat ps).length := by
  have h : flat ps = flat (ps.take k) ++ flat (ps.drop k) := by
    unfold flat
    rw [← List.flatten_append, ← List.map_append, List.take_append_drop]
  rw [h, List.length_append]
  omega
def PcAt (w : World) (P : Nat) (ps : List (Option Addr × Nat × List Nat)) : Prop :=
  ∀ k, k < ps.length → ∃ a c l, ps.getD k pz = (a, c, l) ∧ w.cell? ⟨P, k, none⟩ = some (.slice a l.length c) ∧ Row w a l ∧ (a = none → c = 0)
theorem PcAt.below {w w' : World} {P : Nat} {ps : List (Option Addr × Nat × List Nat)} (h : PcAt w P ps) (hb : Below w.heap.size w w') : PcAt w' P ps := by
  intro k hk
  obtain ⟨a, c, l, e, hc, hr, hn⟩ := h k hk
  exact ⟨a, c, l, e, by rw [hb.cell (World.block_lt_of_cell? _ _ hc)]; exact hc, hr.below hb, hn⟩
set_option maxHeartbeats 400000 in
set_option maxRecDepth 100000 in
theorem join_any (P cp : Nat) (ps : List (Option Addr × Nat × List Nat)) (w : World) (h : PcAt w P ps) (hn : ps.length ≤ 10) (hs : (flat ps).length ≤ 1000000) :
    Calls Tryd.prog 106 #[.slice (some ⟨P, 0, none⟩) ps.length cp] w fun e w' => ∃ v, e = .returned v ∧ w'.ownsRow w.heap.size 5 1 v (flat ps).length (cv (flat ps)) ∧ Below w.heap.size w w' := by
  obtain ⟨i0, hi, hz0, hz1, hz2⟩ := info_parts Tryd.info5
  obtain ⟨F, HF⟩ : ∃ F : Nat → List Nat, Hid (∀ k, flat (ps.take k) = F k) := ⟨_, fun _ => rfl⟩
  have HS : Hid (∀ k, k < ps.length → F (k + 1) = F k ++ (ps.getD k pz).2.2) := fun k hk => by rw [← HF.out, ← HF.out]; exact flat_step ps k hk
  have hF0 : F 0 = [] := by rw [← HF.out]; rfl
  have HA : Hid (F ps.length = flat ps) := by show _ = _; rw [← HF.out, List.take_length]
  have hFl : ∀ k, (F k).length ≤ 1000000 := fun k => by rw [← HF.out]; exact Nat.le_trans (flat_le ps k) hs
  rw [← HA.out]
  clear hs
  generalize hN : ps.length = N at *
  have HN : Hid (ps.length = N) := hN
  clear hN
  go_enter Tryd.func106, Tryd.ntmps106
  go_wp2_with fail
  go_loop [3, 10] (fun s i => ∃ k : Nat, k ≤ N ∧ i = .int .i64 k ∧ s = .int .i64 ((F k).length : Nat)) (fun _ i => N - (intOf i).toNat)
  case atStart => exact ⟨0, by omega, rfl, by rw [hF0]; rfl⟩
  case round =>
    obtain ⟨k, hk, rfl, rfl⟩ := hrel
    have hl := hFl k
    by_cases hlt : k < N
    · have hltI : (k : Int) < (N : Int) := by omega
      obtain ⟨a, c, l, e, hc, hr, hn0⟩ := h k (by rw [HN.out]; exact hlt)
      have hF := HS.out k hlt
      rw [e] at hF
      have hl2 := hFl (k + 1)
      have hlen : (F (k + 1)).length = (F k).length + l.length := by rw [hF, List.length_append]
      have HL : Hid ((F (k + 1)).length = (F k).length + l.length) := hlen
      have hl3 : (F k).length + l.length ≤ 1000000 := by omega
      clear h hr hF e hFl hl2 hlen
      go_wp2_with fail
      go_round
      case rel => exact ⟨k + 1, by omega, by go_num, by rw [HL.out]; go_num⟩
      case measure => simp [intOf]; omega
    · obtain rfl : k = N := by omega
      generalize hM : (F k).length = M at *
      have HM : Hid ((F k).length = M) := hM
      clear hM
      have tok : True := trivial
      go_wp2_with (at_make; refine wpList_make_own _ rfl _ _ 29 rfl w.heap.size 5 i0 (.int .u8 0) 1 Tryd.underlying29 hi hz0 hz1 .i64 .i64 _ M rfl rfl rfl (by rw [hz2]; omega) (by unfold maxLen; omega) (Nat.le_refl _) ?_; intro w1 hown hg; have hbel := below_made hg; clear hg)
      have HK : Hid (k ≤ 10) := hn
      go_loopw [2, 23] (fun b i wr => ∃ j : Nat, j ≤ k ∧ i = .int .i64 j ∧ wr.ownsRow w.heap.size 5 1 b (F j).length (cv (F j)) ∧ Below w.heap.size w wr) (fun _ i _ => k - (intOf i).toNat)
      case atStart => exact ⟨0, by omega, rfl, by rw [hF0]; exact hown, hbel⟩
      case round =>
        clear hown hbel
        obtain ⟨j, hj, rfl, hown, hbel⟩ := hrel
        by_cases hlt : j < k
        · have hltI : (j : Int) < (k : Int) := by omega
          obtain ⟨a, c, l, e, hc, hr, hn0⟩ := (h.below hbel) j (by rw [HN.out]; exact hlt)
          have hF := HS.out j hlt
          rw [e] at hF
          have hl2 := hFl (j + 1)
          have HL : Hid (F (j + 1) = F j ++ l) := hF
          have hl3 : (F j).length + l.length ≤ 1000000 := by rw [hF, List.length_append] at hl2; exact hl2
          have HZ : Hid (w.heap.size ≤ wr.heap.size) := hbel.size
          clear h hF e hFl hl2 hl HM
          go_wp2_with (at_builtin; refine wpList_append_row (by rfl) _ _ rfl w.heap.size w _ _ _ rfl hown hbel HZ.out a c l rfl hr hn0 hl3 ?_; intro v' w2 hown2 hbel2)
          refine ⟨⟨j + 1, by omega, by go_num, by rw [HL.out, List.length_append, cv_append]; exact hown2, hbel2⟩, by simp [intOf]; omega⟩
        · obtain rfl : j = k := by omega
          clear h hFl
          go_wp2_with fail
          go_ret
          exact ⟨_, rfl, hown, hbel⟩
/-- The first byte. -/
def headB (hk hv : Bool) : Nat := (if hk then 1 else 0) + (if hv then 2 else 0)
def headN (r : Rc) : Nat := headB r.hk r.hv
theorem head_any (r : Rc) (w : World) : Calls Tryd.prog 107 #[.agg r.cells] w fun e w' => e = .returned (.int .u8 ((headN r : Nat) : Int)) ∧ Below w.heap.size w w' := by
  obtain ⟨hk, k, hv, v, t, o⟩ := r
  simp only [Rc.cells, headN]
  cases hk <;> cases hv
  · have e : (0 : Int) = ((headB false false : Nat) : Int) := by decide
    have HE : Hid _ := e
    clear e
    go_enter Tryd.func107, Tryd.ntmps107
    go_wp2_with fail
    go_ret
    exact ⟨retI HE.out, below_box _⟩
  · have e : bits .or .u8 0 2 = ((headB false true : Nat) : Int) := by decide
    have HE : Hid _ := e
    clear e
    go_enter Tryd.func107, Tryd.ntmps107
    go_wp2_with fail
    go_ret
    exact ⟨retI HE.out, below_box _⟩
  · have e : bits .or .u8 0 1 = ((headB true false : Nat) : Int) := by decide
    have HE : Hid _ := e
    clear e
    go_enter Tryd.func107, Tryd.ntmps107
    go_wp2_with fail
    go_ret
    exact ⟨retI HE.out, below_box _⟩
  · have e : bits .or .u8 (bits .or .u8 0 1) 2 = ((headB true true : Nat) : Int) := by decide
    have HE : Hid _ := e
    clear e
    go_enter Tryd.func107, Tryd.ntmps107
    go_wp2_with fail
    go_ret
    exact ⟨retI HE.out, below_box _⟩
/-- A text's bytes. -/
def sb (s : ByteArray) : List Nat := s.data.toList.map (·.toNat)
theorem sb_len (s : ByteArray) : (sb s).length = s.size := by simp [sb]
theorem sb_lt (s : ByteArray) : ∀ i, (sb s).getD i 0 < 256 := by
  intro i
  unfold sb
  rw [List.getD_eq_getElem?_getD, List.getElem?_map]
  cases s.data.toList[i]? with
  | none => simp
  | some x => simpa using x.toNat_lt
theorem sb_cells (s : ByteArray) (cap : Nat) : bytesRow s cap = (cv (sb s) ++ cv (List.replicate (cap - s.size) 0)).toArray := by
  unfold bytesRow cv sb
  apply Array.ext'
  simp
def textL (there : Bool) (s : ByteArray) : List Nat := if there then groups s.size ++ sb s else []
theorem row_marked (w : World) (l m : List Nat) (fr : Nat × Nat) (h : ∀ i, l.getD i 0 < 256) : Row (w.alloc (.cells (cv l ++ cv m).toArray 5 fr)) (some ⟨w.heap.size, 0, none⟩) l := by
  intro i hi
  refine ⟨w.heap.size, 0, rfl, ?_, h i⟩
  rw [cell_of_row _ w.heap.size (0 + i) (cv l ++ cv m).toArray 5 fr (heap_alloc_new w _)]
  rw [Nat.zero_add, List.getElem?_toArray, List.getElem?_append_left (by rw [cv_length]; exact hi)]
  exact cv_get l i hi
theorem owns_le {B B' : Nat} {w : World} {v : Value} {n : Nat} {xs : List Value} (h : w.ownsRow B 5 1 v n xs) (hb : B' ≤ B) : w.ownsRow B' 5 1 v n xs :=
  ⟨h.1, h.2.elim Or.inl (fun ⟨g, cap, cur, hv, hg, r⟩ => Or.inr ⟨g, cap, cur, hv, Nat.le_trans hb hg, r⟩)⟩
theorem pc_new (W : World) (ps : List (Option Addr × Nat × List Nat)) (vs : List Value) (hv : vs = ps.map fun p => .slice p.1 p.2.2.length p.2.1) (hr : ∀ p, p ∈ ps → Row W p.1 p.2.2 ∧ (p.1 = none → p.2.1 = 0)) : PcAt (W.alloc (.cells vs.toArray 29)) W.heap.size ps := by
  intro k hk
  have hm : ps[k] ∈ ps := List.getElem_mem hk
  obtain ⟨h1, h2⟩ := hr _ hm
  refine ⟨ps[k].1, ps[k].2.1, ps[k].2.2, by simp [List.getD, hk], ?_, h1.below (below_box _), h2⟩
  rw [cell_of_row _ W.heap.size k vs.toArray 29 (0, 0) (heap_alloc_new W _), hv]
  simp [hk]
theorem pc_text {B : Nat} (s : ByteArray) (w1 : World) {g1 c1 : Nat} (own1 : Own B w1 g1 c1 (groups s.size)) (cap : Nat) (fr : Nat × Nat) (hs : s.size ≤ 2000) :
    PcAt (((w1.alloc (.cells (bytesRow s cap) 5 fr)).alloc (.cells #[.slice (some ⟨g1, 0, none⟩) (groups s.size).length c1, .slice (some ⟨w1.heap.size, 0, none⟩) s.size cap] 29)).drew) (w1.heap.size + 1) [(some ⟨g1, 0, none⟩, c1, groups s.size), (some ⟨w1.heap.size, 0, none⟩, cap, sb s)] := by
  have r1 : Row (w1.alloc (.cells (bytesRow s cap) 5 fr)) (some ⟨g1, 0, none⟩) (groups s.size) := (own1.row (groups_lt s.size (by omega))).below (below_box _)
  have r2 : Row (w1.alloc (.cells (bytesRow s cap) 5 fr)) (some ⟨w1.heap.size, 0, none⟩) (sb s) := by
    rw [sb_cells]; exact row_marked w1 (sb s) _ fr (sb_lt s)
  have := pc_new (w1.alloc (.cells (bytesRow s cap) 5 fr)) [(some ⟨g1, 0, none⟩, c1, groups s.size), (some ⟨w1.heap.size, 0, none⟩, cap, sb s)] [.slice (some ⟨g1, 0, none⟩) (groups s.size).length c1, .slice (some ⟨w1.heap.size, 0, none⟩) s.size cap] (by simp [sb_len]) (by
    intro p hp
    simp only [List.mem_cons, List.not_mem_nil, or_false] at hp
    rcases hp with rfl | rfl
    · exact ⟨r1, fun c => by cases c⟩
    · exact ⟨r2, fun c => by cases c⟩)
  rw [show (w1.alloc (.cells (bytesRow s cap) 5 fr)).heap.size = w1.heap.size + 1 by simp] at this
  exact this
set_option maxRecDepth 100000 in
theorem text_any (there : Bool) (s : ByteArray) (w : World) (hs : s.size ≤ 2000) :
    Calls Tryd.prog 110 #[.bool there, .string s] w fun e w' => ∃ v, e = .returned v ∧ w'.ownsRow w.heap.size 5 1 v (textL there s).length (cv (textL there s)) ∧ Below w.heap.size w w' := by
  cases there
  · go_enter Tryd.func110, Tryd.ntmps110
    go_wp2_with fail
    go_ret
    exact ⟨_, rfl, World.ownsRow_nil _ _ _ _, Below.refl _ _⟩
  · have kc := fun w' => run_bytes_of_string (P := Tryd.prog) w' 9 29 5 s Tryd.underlying9 Tryd.underlying29 Tryd.underlying5
    have hsI : (s.size : Int) ≤ 2000 := by omega
    have HG : Hid (1 ≤ (groups s.size).length ∧ (groups s.size).length ≤ 10) := groups_len _
    have HFL : Hid (∀ a c b d, flat [(a, c, groups s.size), (b, d, sb s)] = textL true s) := fun a c b d => by simp [flat, textL]
    have HTL : Hid ((textL true s).length ≤ 1000000) := by
      have := (groups_len s.size).2
      show _ ≤ _
      simp only [textL, if_true, List.length_append, sb_len]
      omega
    go_enter Tryd.func110, Tryd.ntmps110
    go_wp2_with (first
      | (go_at_call 108; refine (varint_any s.size _ (by omega)).mono ?_; rintro e w1 ⟨v1, rfl, hown1, hb1⟩; obtain ⟨g1, c1, rfl, own1⟩ := owns_some hown1 HG.out.1; clear hown1; have HP : Hid _ := fun cap fr => pc_text s w1 own1 cap fr hs)
      | (go_at_call 106; refine (join_any _ 2 _ _ (HP.out _ _) (by simp) (by rw [HFL.out]; exact HTL.out)).mono ?_; rintro e w2 ⟨v2, rfl, hown2, hb2⟩; rw [HFL.out] at hown2))
    go_ret
    have hb : Below w.heap.size w ((w1.alloc (.cells (bytesRow s (grownCap w1 s.size 0 5)) 5 ((bytesRow s (grownCap w1 s.size 0 5)).size, (bytesRow s (grownCap w1 s.size 0 5)).size + 1))).alloc (.cells #[.slice (some ⟨g1, 0, none⟩) (groups s.size).length c1, .slice (some ⟨w1.heap.size, 0, none⟩) s.size (grownCap w1 s.size 0 5)] 29)).drew := ((hb1.alloc hb1.size _).alloc (by have := hb1.size; simp; omega) _).drew
    exact ⟨v2, rfl, owns_le hown2 hb.size, hb.trans (hb2.mono hb.size)⟩
end Go.Proofs.YtaooidckmepdeaaDoor
