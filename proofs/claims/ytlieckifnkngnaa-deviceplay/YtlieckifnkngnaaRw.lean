/- The document's device: Write. -/
import Derived.Test.YtlieckifnkngnaaRg
namespace Go.Proofs.Ytlieckifnkngnaa
set_option linter.unusedSimpArgs false
set_option linter.unusedVariables false
open Go.RowKit Go.MapKept
section
variable {B : Nat} {w w' : World} {q gB cB gP cP : Nat} {bs ps : List Value} {rs : Nat → List Value} {G : List Nat} {d : Dv} {last : Int}
theorem rinfo39 : (Try.prog.info? 39).map (fun i => (i.zero, i.size, i.bytes)) = some (some (.slice none 0 0), 1, 24) := by kernel_rfl
theorem rinfo61 : (Try.prog.info? 61).map (fun i => (i.zero, i.size, i.bytes)) = some (some (.slice none 0 0), 1, 24) := by kernel_rfl
theorem refWrite_off (h : RefAt B w q gB cB gP cP bs ps rs G d last) (ho : d.ops < 1000000) (hon : d.on = false) (k : Int) (v : Value) :
    Calls Try.prog 29 #[.pointer (some ⟨q, 0, none⟩), .int .i64 k, v] w fun e w' => e = .returned (.int .i64 9) ∧ RefAt B w' q gB cB gP cP bs ps rs G d.tick last ∧ Keeps G w w' := by
  have HO : Hid ((!d.on) = true) := by show _ = _; rw [hon]; rfl
  clear hon
  go_enter Try.func29, Try.ntmps29
  go_wp2_with (go_at_call 45; refine (off_any h ho).mono ?_; rintro e w1 ⟨rfl, h1, k1⟩; rw [HO.out])
  go_ret
  exact ⟨rfl, h1, k1⟩
theorem refWrite_bad (h : RefAt B w q gB cB gP cP bs ps rs G d last) (ho : d.ops < 1000000) (hon : d.on = true) (k : Int) (a : Option Addr) (m cap : Nat) (hk : hasB d.n k = false ∨ m ≠ 512) (hm : m ≤ 1000000) :
    Calls Try.prog 29 #[.pointer (some ⟨q, 0, none⟩), .int .i64 k, .slice a m cap] w fun e w' => e = .returned (.int .i64 1) ∧ RefAt B w' q gB cB gP cP bs ps rs G d.tick last ∧ Keeps G w w' := by
  have HO : Hid ((!d.on) = false) := by show _ = _; rw [hon]; rfl
  obtain ⟨d1, HD⟩ : ∃ d1, Hid (d.tick = d1) := ⟨_, rfl⟩
  have hk2 : k < 0 ∨ (d1.n : Int) ≤ k ∨ m ≠ 512 := by
    rw [← HD.out]
    rcases hk with hk | hk
    · simp [hasB] at hk; simp [Dv.tick]; omega
    · exact .inr (.inr hk)
  clear hon hk
  by_cases hk0 : k < 0
  · go_enter Try.func29, Try.ntmps29
    go_wp2_with (go_at_call 45; refine (off_any h ho).mono ?_; rintro e w1 ⟨rfl, h1, k1⟩; rw [HO.out]; rw [HD.out] at h1; obtain ⟨c0, c1, c2, c3⟩ := h1.c)
    go_ret
    exact ⟨rfl, HD.out ▸ h1, k1⟩
  · by_cases hk1 : (d1.n : Int) ≤ k
    · go_enter Try.func29, Try.ntmps29
      go_wp2_with (go_at_call 45; refine (off_any h ho).mono ?_; rintro e w1 ⟨rfl, h1, k1⟩; rw [HO.out]; rw [HD.out] at h1; obtain ⟨c0, c1, c2, c3⟩ := h1.c)
      go_ret
      exact ⟨rfl, HD.out ▸ h1, k1⟩
    · have hmN : ¬ m = 512 := by omega
      have hmB : ((m : Int) != 512) = true := by simp; omega
      go_enter Try.func29, Try.ntmps29
      go_wp2_with (go_at_call 45; refine (off_any h ho).mono ?_; rintro e w1 ⟨rfl, h1, k1⟩; rw [HO.out]; rw [HD.out] at h1; obtain ⟨c0, c1, c2, c3⟩ := h1.c)
      go_ret
      exact ⟨rfl, HD.out ▸ h1, k1⟩
set_option maxRecDepth 100000 in
set_option maxHeartbeats 2000000 in
theorem refWrite_ok (h : RefAt B w q gB cB gP cP bs ps rs G d last) (ho : d.ops < 1000000) (hon : d.on = true) (k : Nat) (hk : k < d.n) (ad : Addr) (cap : Nat) (c : List Nat) (hrow : Row w (some ad) c) (hl : c.length = 512) (hb : ∀ i, c.getD i 0 < 256) (hg : ad.block ∉ G) (had : ad.block < w.heap.size) (hBs : B ≤ w.heap.size) :
    Calls Try.prog 29 #[.pointer (some ⟨q, 0, none⟩), .int .i64 (k : Int), .slice (some ad) 512 cap] w fun e w' => e = .returned (.int .i64 0) ∧ (∃ ps' rs' G', RefAt B w' q gB cB gP cP bs ps' rs' G' (d.tick.add k c) last ∧ ∀ x ∈ G', x ∈ G ∨ w.heap.size ≤ x) ∧ Keeps G w w' := by
  have HO : Hid ((!d.on) = false) := by show _ = _; rw [hon]; rfl
  obtain ⟨d1, HD⟩ : ∃ d1, Hid (d.tick = d1) := ⟨_, rfl⟩
  have hk1 : k < d1.n := by rw [← HD.out]; exact hk
  have hkI : (k : Int) < (d1.n : Int) := by omega
  have hkJ : ¬ (d1.n : Int) ≤ (k : Int) := by omega
  have HL : Hid (c.length = 512) := hl
  have HRW : Hid (∀ w', Keeps G w w' → Row w' (some ad) c) := fun w' hk2 => row_blk hrow (hk2.block _ had hg)
  have HOK : Hid ((d1.add k c).Ok) := by
    show (d1.add k c).Ok
    rw [← HD.out]
    exact (h.ok.tick ho).add (fun x => by have := h.ok.count x; simp [Dv.tick]; omega) k c hl hb
  clear hon hk hl hrow
  go_enter Try.func29, Try.ntmps29
  go_wp2_with (go_at_call 45; refine (off_any h ho).mono ?_; rintro e w1 ⟨rfl, h1, k1⟩; rw [HO.out]; rw [HD.out] at h1; obtain ⟨c0, c1, c2, c3⟩ := h1.c)
  have HR : Hid (Row w1.drew (some ad) c) := HRW.out _ k1.drew
  have hp := h1.pcell k hk1
  have hown := h1.ro k hk1
  obtain ⟨pv, HV⟩ : ∃ pv, Hid (ps.getD k undef = pv) := ⟨_, rfl⟩
  rw [HV.out] at hp hown
  refine wp_region_lat (fun x => x.cell? ⟨q, 1, none⟩ = some (.slice (some ⟨gP, 0, none⟩) d1.n cP) ∧ x.cell? ⟨gP, k, none⟩ = some pv) 18 (by kernel_rfl) ⟨c1, hp⟩ (fun hHeld => ?_)
  refine lat_take 0 (v := ?_) rfl (by kernel_rfl) (by kernel_rfl) (by kernel_rfl) (by kernel_rfl) (fun _ _ _ h => h) (by rfl) ?_ (by assumption) ?_
  rotate_left
  · (intro w hSw; (try dsimp only at hSw); go_simp <;> with_reducible rfl)
  try simp only [Act.put, List.setIfInBounds_toArray, List.set_cons_zero, List.set_cons_succ]
  refine lat_take 1 (v := ?_) rfl (by kernel_rfl) (by kernel_rfl) (by kernel_rfl) (by kernel_rfl) (fun _ _ _ h => h) (by rfl) ?_ (by assumption) ?_
  rotate_left
  · (intro w hSw; (try dsimp only at hSw); go_simp <;> with_reducible rfl)
  try simp only [Act.put, List.setIfInBounds_toArray, List.set_cons_zero, List.set_cons_succ]
  refine lat_take 2 (v := ?_) rfl (by kernel_rfl) (by kernel_rfl) (by kernel_rfl) (by kernel_rfl) (fun _ _ _ h => h) (by rfl) ?_ (by assumption) ?_
  rotate_left
  · (intro w hSw; (try dsimp only at hSw); go_simp <;> with_reducible rfl)
  try simp only [Act.put, List.setIfInBounds_toArray, List.set_cons_zero, List.set_cons_succ]
  refine lat_take 3 (v := ?_) rfl (by kernel_rfl) (by kernel_rfl) (by kernel_rfl) (by kernel_rfl) (fun _ _ _ h => h) (by rfl) ?_ (by assumption) ?_
  rotate_left
  · (intro w hSw; (try dsimp only at hSw); go_simp <;> with_reducible rfl)
  try simp only [Act.put, List.setIfInBounds_toArray, List.set_cons_zero, List.set_cons_succ]
  refine lat_take 4 (v := ?_) rfl (by kernel_rfl) (by kernel_rfl) (by kernel_rfl) (by kernel_rfl) (fun _ _ _ h => h) (by rfl) ?_ (by assumption) ?_
  rotate_left
  · (intro w hSw; (try dsimp only at hSw); go_simp <;> with_reducible rfl)
  try simp only [Act.put, List.setIfInBounds_toArray, List.set_cons_zero, List.set_cons_succ]
  refine lat_take 5 (v := ?_) rfl (by kernel_rfl) (by kernel_rfl) (by kernel_rfl) (by kernel_rfl) (fun _ _ _ h => h) (by rfl) ?_ (by assumption) ?_
  rotate_left
  · (intro w hSw; (try dsimp only at hSw); go_simp <;> with_reducible rfl)
  try simp only [Act.put, List.setIfInBounds_toArray, List.set_cons_zero, List.set_cons_succ]
  refine lat_take 6 (v := ?_) rfl (by kernel_rfl) (by kernel_rfl) (by kernel_rfl) (by kernel_rfl) (fun _ _ _ h => h) (by rfl) ?_ (by assumption) ?_
  rotate_left
  · (intro w hSw; (try dsimp only at hSw); go_simp <;> with_reducible rfl)
  try simp only [Act.put, List.setIfInBounds_toArray, List.set_cons_zero, List.set_cons_succ]
  refine lat_take 7 (v := ?_) rfl (by kernel_rfl) (by kernel_rfl) (by kernel_rfl) (by kernel_rfl) (fun _ _ _ h => h) (by rfl) ?_ (by assumption) ?_
  rotate_left
  · (intro w hSw; (try dsimp only at hSw); go_simp <;> with_reducible rfl)
  try simp only [Act.put, List.setIfInBounds_toArray, List.set_cons_zero, List.set_cons_succ]
  refine lat_take 8 (v := ?_) rfl (by kernel_rfl) (by kernel_rfl) (by kernel_rfl) (by kernel_rfl) (fun _ _ _ h => h) (by rfl) ?_ (by assumption) ?_
  rotate_left
  · (intro w hSw; (try dsimp only at hSw); go_simp <;> with_reducible rfl)
  try simp only [Act.put, List.setIfInBounds_toArray, List.set_cons_zero, List.set_cons_succ]
  refine lat_take 9 (v := ?_) rfl (by kernel_rfl) (by kernel_rfl) (by kernel_rfl) (by kernel_rfl) (fun _ _ _ h => h) (by rfl) ?_ (by assumption) ?_
  rotate_left
  · (intro w hSw; (try dsimp only at hSw); go_simp <;> with_reducible rfl)
  try simp only [Act.put, List.setIfInBounds_toArray, List.set_cons_zero, List.set_cons_succ]
  refine lat_take 10 (v := ?_) rfl (by kernel_rfl) (by kernel_rfl) (by kernel_rfl) (by kernel_rfl) (fun _ _ _ h => h) (by rfl) ?_ (by assumption) ?_
  rotate_left
  · (intro w hSw; (try dsimp only at hSw); go_simp <;> with_reducible rfl)
  try simp only [Act.put, List.setIfInBounds_toArray, List.set_cons_zero, List.set_cons_succ]
  refine lat_take 11 (v := ?_) rfl (by kernel_rfl) (by kernel_rfl) (by kernel_rfl) (by kernel_rfl) (fun _ _ _ h => h) (by rfl) ?_ (by assumption) ?_
  rotate_left
  · (intro w hSw; (try dsimp only at hSw); go_simp <;> with_reducible rfl)
  try simp only [Act.put, List.setIfInBounds_toArray, List.set_cons_zero, List.set_cons_succ]
  refine lat_take 12 (v := ?_) rfl (by kernel_rfl) (by kernel_rfl) (by kernel_rfl) (by kernel_rfl) (fun _ _ _ h => h) (by rfl) ?_ (by assumption) ?_
  rotate_left
  · (intro w hSw; (try dsimp only at hSw); go_simp <;> with_reducible rfl)
  try simp only [Act.put, List.setIfInBounds_toArray, List.set_cons_zero, List.set_cons_succ]
  refine lat_take 13 (v := ?_) rfl (by kernel_rfl) (by kernel_rfl) (by kernel_rfl) (by kernel_rfl) (fun _ _ _ h => h) (by rfl) ?_ (by assumption) ?_
  rotate_left
  · (intro w hSw; (try dsimp only at hSw); go_simp <;> with_reducible rfl)
  try simp only [Act.put, List.setIfInBounds_toArray, List.set_cons_zero, List.set_cons_succ]
  refine lat_one 14 rfl (by kernel_rfl) (by decide) (by rfl) (fun K hK => ?_)
  obtain ⟨i5, hi5, hz0, hz1, hz2⟩ := info_parts Try.info5
  refine wp_append_own w1.drew _ _ 39 (by rfl) w1.heap.size 5 i5 (.int .u8 0) 1 1 Try.underlying39 hi5 hz0 hz1 hz2 rfl (by decide) _ 0 [] (by rfl) (owns_nil _ _ _) ad 512 cap (cv c) (by rfl) (by rw [cv_length, HL.out]) (row_news HR.out) (cv_one _) (by unfold maxLen; omega) (by omega) (Nat.le_refl _) ?_
  intro v2 w2 ho2 hg2 _
  obtain ⟨b, cb, hv2, hle2⟩ : ∃ b cb, v2 = .slice (some ⟨b, 0, none⟩) 512 cb ∧ True := by
    rcases owns_shape ho2 with ⟨_, h0⟩ | ⟨b, cb, e, _⟩
    · omega
    · exact ⟨b, cb, by rw [e], trivial⟩
  subst hv2
  obtain ⟨q1, q2, q3, q4, q5⟩ := h1.far k hk1
  rw [HV.out] at q3 q4
  have s1 := k1.size
  have s2 := hg2.size
  have s2' : w1.heap.size ≤ w2.heap.size := s2
  refine hK.out _ _ ⟨?_, ?_⟩ (fun hHeld2 => ?_)
  · exact (hg2.cell_far _ q1 (by simp [Value.ownBlock])).trans hHeld.1
  · exact (hg2.cell_far _ q2 (by simp [Value.ownBlock])).trans hHeld.2
  clear hK hHeld
  try simp only [Act.put, List.setIfInBounds_toArray, List.set_cons_zero, List.set_cons_succ]
  refine lat_one 15 rfl (by kernel_rfl) (by decide) (by rfl) (fun K hK => ?_)
  go_simp
  refine hK.out _ _ ⟨?_, ?_⟩ (fun hHeld3 => ?_)
  · exact (World.cell?_of_block (w := w2) (heap_alloc_lt (by show q < _; omega))).trans hHeld2.1
  · exact (World.cell?_of_block (w := w2) (heap_alloc_lt (by show gP < _; omega))).trans hHeld2.2
  clear hK hHeld2
  try simp only [Act.put, List.setIfInBounds_toArray, List.set_cons_zero, List.set_cons_succ]
  have hown2 : w2.ownsRow B 39 1 pv (d1.pend k).length (rs k) := World.ownsRow.kept (w := w1.drew) hown.drew hg2 (by cases hq : pv.ownBlock with
    | none => exact .inl rfl
    | some x => exact .inr (by simp [Value.ownBlock]))
  have hm6 : (d1.pend k).length ≤ 1000000 := by have := h1.ok.count k; have := h1.ok.ops; omega
  refine lat_one 16 rfl (by kernel_rfl) (by decide) (by rfl) (fun K hK => ?_)
  obtain ⟨i39, hi39, hy0, hy1, hy2⟩ := info_parts rinfo39
  refine wp_append_lies (w2.alloc _) _ _ 61 (by rfl) B 39 i39 (.slice none 0 0) 1 24 Try.underlying61 hi39 hy0 hy1 hy2 rfl (by decide) pv (d1.pend k).length (rs k) (by rfl) (hown2.alloc _) ⟨w2.heap.size, 0, none⟩ 1 1 [.slice (some ⟨b, 0, none⟩) 512 cb] (by rfl) (by rfl) (fun j u hj => ?_) (by simp [Value.oneCell']) (by decide) (by unfold maxLen; omega) (by omega) (by rw [size_alloc]; omega) (w2.heap.size + 1) (size_alloc _ _) ?_
  · have : j = 0 := by
      cases j with
      | zero => rfl
      | succ j => simp at hj
    subst this
    rw [Addr.add_lit, cell_of_row _ _ _ _ _ _ (heap_alloc_new w2 _)]
    simpa using hj
  intro g4 cap4 w4 ho4 hg4 hat4 hlt4
  have s4 := hg4.size
  rw [size_alloc] at s4
  refine hK.out _ _ ⟨?_, ?_⟩ (fun hHeld4 => ?_)
  · exact (hg4.cell_far _ (by rw [size_alloc]; show q < _; omega) q3).trans hHeld3.1
  · exact (hg4.cell_far _ (by rw [size_alloc]; show gP < _; omega) q4).trans hHeld3.2
  have hfr : w4.frozen? ⟨gP, k, none⟩ = false := by
    have e4 : w4.heap[gP]? = w1.heap[gP]? := (hg4.block gP (by rw [size_alloc]; omega) q4).trans ((heap_alloc_lt (by omega)).trans (hg2.block gP q2 (by simp [Value.ownBlock])))
    have hpo := owns_same' (w' := w4) h1.po fun x hx => by cases hx; exact e4
    exact owns_free' hpo k
  clear hK hHeld3
  try simp only [Act.put, List.setIfInBounds_toArray, List.set_cons_zero, List.set_cons_succ]
  refine lat_take 17 (v := ?_) rfl (by kernel_rfl) (by kernel_rfl) (by kernel_rfl) (by kernel_rfl) (fun _ _ _ h => h) (by rfl) ?_ (by assumption) ?_
  rotate_left
  · (intro w hSw; (try dsimp only at hSw); go_simp <;> with_reducible rfl)
  try simp only [Act.put, List.setIfInBounds_toArray, List.set_cons_zero, List.set_cons_succ]
  refine lat_last 18 rfl (by kernel_rfl) (by decide) (by kernel_rfl) (by rfl) (fun K hK => ?_)
  obtain ⟨hH1, hH2⟩ := hHeld4
  go_simp
  refine hK.out _ _ ?_
  go_wp2
  go_ret
  obtain ⟨hfin, hkeep⟩ := h1.wrote k hk1 (o := .cells #[.slice (some ⟨b, 0, none⟩) 512 cb] 39) (c := c) HL.out hb ⟨hg2.os, hg2.tape, hg2.output, hg2.size, hg2.block⟩ (by simpa using ho2) ho4 (by rw [HV.out]; exact hg4) (by rw [HV.out]; exact hat4) hlt4 (by omega) HOK.out
  refine ⟨rfl, ?_, k1.trans hkeep (fun x hx => .inl hx)⟩
  obtain ⟨ps', rs', G', hr, hG⟩ := hfin
  rw [HD.out]
  exact ⟨ps', rs', G', hr, fun x hx => (hG x hx).imp id fun y => by omega⟩
end
end Go.Proofs.Ytlieckifnkngnaa
