/- Crash: the walk. -/
import Derived.Test.YtohncckmennfbaaDoorCr
namespace Go.Proofs.YtohncckmennfbaaDoor
set_option linter.unusedSimpArgs false
set_option linter.unusedVariables false
open Go.RowKit Go.MapKept
open Go.ChangeMaps (setBlock)
def ints (ks : List Nat) : List Int := ks.map fun k : Nat => (k : Int)
theorem ints_len (ks : List Nat) : (ints ks).length = ks.length := by simp [ints]
theorem ints_get (ks : List Nat) (i : Nat) (h : i < ks.length) : (ints ks).getD i 0 = ((ks.getD i 0 : Nat) : Int) := by simp [ints, List.getD, h]
theorem getD_mem (ks : List Nat) (i : Nat) (h : i < ks.length) : ks.getD i 0 ∈ ks := by simp [List.getD, h]
theorem own_rowI {w : World} {B : Nat} {v : Value} {ks : List Nat} (h : w.ownsRow B 3 1 v ks.length (ks.map mkI)) (hb : ∀ k ∈ ks, k < 65536) : ∃ a cap, v = .slice a ks.length cap ∧ RowI w a (ints ks) := by
  rcases h.2 with ⟨rfl, h0⟩ | ⟨g, cap, cur, rfl, hB, hg, hle, hm, _, _⟩
  · refine ⟨none, 0, by rw [h0], ?_⟩
    intro i hi
    rw [ints_len] at hi
    omega
  · refine ⟨_, cap, rfl, ?_⟩
    intro i hi
    rw [ints_len] at hi
    refine ⟨g, 0, rfl, ?_⟩
    have e : (ks.map mkI)[i]? = some (.int .i64 ((ks.getD i 0 : Nat) : Int)) := by simp [List.getD, hi]
    have := h.cells (g := g) rfl i _ e
    have hk := hb (ks.getD i 0) (getD_mem ks i hi)
    rw [ints_get ks i hi]
    exact ⟨by simpa [Addr.add_lit] using this, by omega, by omega⟩
/-- On the way through the keys. -/
structure CwAt (w : World) (p fb pb tb : Nat) (d : Dv) (l : List Int) (ks : List Nat) (a : Option Addr) (c cf cp ct : Nat) (j : Nat) (wr : World) (B : Nat → List Nat) : Prop where
  new : DevIs wr c cf cp ct (fresh d.n B)
  at' : CrAt d l ks j B
  row : RowI wr a (ints ks)
  bel : Below w.heap.size w wr
theorem crS {w' : World} {p fb pb tb c cf cp ct b0 o0 j k : Nat} {d e : Dv} {l : List Int} (h : DevIs w' p fb pb tb d) (hc : DevIs w' c cf cp ct e) (hl : RowI w' (some ⟨b0, o0, none⟩) l) (hj : j < l.length) (hk : k < d.n) :
    w'.cell? ⟨c, 1, none⟩ = some (.map (some cf)) ∧ w'.cell? ⟨b0, o0 + j, none⟩ = some (.int .i64 (l.getD j 0)) ∧ w'.cell? ⟨p, 3, none⟩ = some (.map (some tb)) ∧
      (Instr.lookup 30 (.map (some tb)) (.int .i64 (k : Int)) false).run Tryd.prog w' = .ok (.int .i64 ((d.pend k).length : Int)) w' := by
  refine ⟨hc.c.2.1, ?_, h.c.2.2.2.1, h.lookT k hk w' rfl⟩
  obtain ⟨b, off, e, hcell, _⟩ := hl j hj
  simp only [Option.some.injEq, Addr.mk.injEq, and_true] at e
  obtain ⟨rfl, rfl⟩ := e
  exact hcell
set_option maxRecDepth 100000 in
set_option maxHeartbeats 1000000 in
theorem crash_any (p fb pb tb : Nat) (d : Dv) (a0 : Option Addr) (l : List Int) (cap0 : Nat) (w : World) (h : DevIs w p fb pb tb d) (hl : RowI w a0 l) (hll : l.length ≤ 9223372036854775807) :
    Calls Tryd.prog 24 #[.pointer (some ⟨p, 0, none⟩), .slice a0 l.length cap0] w fun e w' => ∃ c cf cp ct, e = .returned (.pointer (some ⟨c, 0, none⟩)) ∧ DevIs w' c cf cp ct (d.crash l) ∧ (∀ x ∈ fp c cf cp ct, w.heap.size ≤ x) ∧ Below w.heap.size w w' := by
  obtain ⟨c0, c1, c2, c3, c4, c5, c6⟩ := h.c
  have h1 := h.ok.n1
  have hn0 : ((d.n : Int) == 0) = false := by simp; omega
  obtain ⟨F, m, hF, hFb⟩ := h.fm
  have hlt := h.lt
  have K40 : Hid (∀ w', w'.heap = w.heap → w'.os = w.os → w'.tape = w.tape → w'.output = w.output → Calls Tryd.prog 42 #[.map (some fb)] w' fun e w'' => ∃ cf, e = .returned (.map (some cf)) ∧ MapIs w'' cf mkI F m ∧ w.heap.size ≤ cf ∧ Below w.heap.size w w'') := fun w' e1 e2 e3 e4 => by
    obtain ⟨es, cl, hb, E, hs⟩ := hF
    refine (cloneF_any fb es cl w' (by rw [e1]; exact hb)).mono ?_
    rintro e w'' ⟨rfl, rfl⟩
    refine ⟨w'.heap.size, rfl, ⟨es, cl, heap_alloc_new _ _, E, hs⟩, by rw [e1]; exact Nat.le_refl _, ?_⟩
    have hb0 : Below w.heap.size w w' := ⟨e2, e3, e4, by rw [e1]; exact Nat.le_refl _, fun k _ => by rw [e1]⟩
    exact hb0.alloc (by rw [e1]; exact Nat.le_refl _) _
  have K28 : Hid (∀ w1 cf, MapIs w1 cf mkI F m → Calls Tryd.prog 41 #[.int .i64 (d.n : Int), .map (some cf)] w1 fun e w2 => ∃ c cp ct, e = .returned (.pointer (some ⟨c, 0, none⟩)) ∧ DevIs w2 c cf cp ct (fresh d.n d.base) ∧ (w1.heap.size ≤ c ∧ w1.heap.size ≤ cp ∧ w1.heap.size ≤ ct) ∧ Below w1.heap.size w1 w2) := fun w1 cf hm => by
    refine (settled_any d.n cf m d.base F w1 hm hFb (fresh_ok h.ok.n1 h.ok.n2 h.ok.base)).mono ?_
    rintro e w2 ⟨rfl, hd, hb⟩
    exact ⟨_, _, _, rfl, hd, by omega, hb⟩
  have KS : Hid (∀ w2, Below w.heap.size w w2 → Calls Tryd.prog 43 #[.func (.func 68) #[] #[.pointer (some ⟨w2.heap.size, 0, none⟩)]] (w2.alloc (.cells #[.map (some tb)] 30)) fun e w' => ∃ (a : Option Addr) (cap : Nat) (ks : List Nat), e = .returned (.slice a ks.length cap) ∧
      KeysOf d ks ∧ RowI w' a (ints ks) ∧ ks.length ≤ 65536 ∧ Below w2.heap.size w2 w') := fun w2 hb2 => by
    have hm2 : MapIs w2 tb mkI d.turns d.n := h.tm.blk (hb2.block tb (hlt tb (by simp [fp])))
    refine (sorted_any tb d.n d.turns w2 hm2 (by have := h.ok.n2; omega) (fun k v hv => by have := (turns_some hv).1; have := h.ok.n2; omega)).mono ?_
    rintro e w' ⟨v, ks, rfl, hmem, hasc, hrow, hlen, hb⟩
    have hK := KeysOf.of hmem hasc
    obtain ⟨a, cap, rfl, hr⟩ := own_rowI hrow (fun k hk => by have := ((hK.mem k).1 hk).1; have := h.ok.n2; omega)
    exact ⟨a, cap, ks, rfl, hK, hr, by have := h.ok.n2; omega, hb⟩
  clear hF hFb
  go_enter Tryd.func24, Tryd.ntmps24
  go_wp2_with (go_at_call 35; refine (blocks_any p fb pb tb d _ h).mono ?_; rintro e w1 ⟨rfl, hw⟩; subst w1)
  go_region_held3 (fun w' => w'.cell? ⟨p, 0, none⟩ = some (.int .i64 (d.n : Int)) ∧ w'.cell? ⟨p, 1, none⟩ = some (.map (some fb))) (first | exact ⟨c0, c1⟩ | exact ⟨c0', c1'⟩ | exact ⟨c0'', c1''⟩)
    (first
      | (go_at_call 42; refine (K40.out _ (by rfl) (by rfl) (by rfl) (by rfl)).mono ?_; rintro e w1 ⟨cf, rfl, hcf, hcfs, hb1⟩; obtain ⟨c0', c1', _⟩ := (h.below hb1).c)
      | (go_at_call 41; refine (K28.out _ _ hcf).mono ?_; rintro e w2 ⟨c, cp, ct, rfl, hd2, hnew, hb2⟩; have hb12 : Below w.heap.size w w2 := hb1.trans (hb2.mono hb1.size); obtain ⟨c0'', c1'', _, c3'', _⟩ := (h.below hb12).c))
  go_wp2_with (first
    | (go_at_call 44; refine (keys_any _ _).mono ?_; rintro e w3 ⟨rfl, rfl⟩)
    | (go_at_call 43; refine (KS.out _ hb12).mono ?_; rintro e w5 ⟨a, cap, ks, rfl, hK, hrow, hkl, hb5⟩))
  have hb15 : Below w.heap.size w w5 := hb12.trans (hb5.mono hb12.size)
  have hd5 : DevIs w5 c cf cp ct (fresh d.n d.base) := hd2.below hb5
  have HNEW : Hid (∀ x ∈ fp c cf cp ct, w.heap.size ≤ x) := fun x hx => by
    have := hb1.size
    simp only [fp, List.mem_cons, List.not_mem_nil, or_false] at hx
    omega
  clear c0' c1' c0'' c1'' c3'' hd2 hb2 hb5 hb12 hcf hb1 KS K28 K40
  go_loopw [30] (fun i wr => ∃ (j : Nat) (B : Nat → List Nat), j ≤ ks.length ∧ i = .int .i64 (j : Int) ∧ CwAt w p fb pb tb d l ks a c cf cp ct j wr B) (fun i _ => ks.length - (iof i).toNat)
  case atStart => exact ⟨0, d.base, by omega, rfl, hd5, CrAt.start h.ok l ks, hrow, hb15⟩
  case round =>
    clear hd5 hrow hb15
    obtain ⟨j, B, hj, rfl, hA⟩ := hrel
    by_cases hjl : j < ks.length
    · have hjI : (j : Int) < (ks.length : Int) := by omega
      obtain ⟨b5, o5, rfl, hcell, _, _⟩ := hA.row j (by rw [ints_len]; exact hjl)
      rw [ints_get ks j hjl] at hcell
      by_cases hp : j < l.length
      · have hpI : (j : Int) < (l.length : Int) := by omega
        obtain ⟨b0, o0, rfl, _, z1, z2⟩ := hl j hp
        have hkm := (hK.mem _).1 (getD_mem ks j hjl)
        have HRK : Hid (d.rank (ks.getD j 0) = j) := hK.rank_at j hjl
        obtain ⟨k, HK⟩ : ∃ k, Hid (ks.getD j 0 = k) := ⟨_, rfl⟩
        rw [HK.out] at hcell hkm HRK
        obtain ⟨hkn, hpne⟩ := hkm
        have hS0 := crS (h.below hA.bel) hA.new (hl.below hA.bel) hp hkn
        obtain ⟨z, HZ⟩ : ∃ z, Hid (l.getD j 0 = z) := ⟨_, rfl⟩
        rw [HZ.out] at z1 z2 hS0
        have hcount : (d.pend k).length ≤ 1000000 := by have := h.ok.count k; have := h.ok.ops; omega
        obtain ⟨t, HT⟩ : ∃ t, Hid (pickOf l j (d.pend k).length = t) := ⟨_, rfl⟩
        have htle : t ≤ (d.pend k).length := by rw [← HT.out]; exact pickOf_le _ _ _
        have HC : Hid (d.at k t = d.crashBase l k) := by show _ = _; rw [Dv.crashBase, if_neg hpne, HRK.out, HT.out]
        have htz : z % (((d.pend k).length : Int) + 1) = (t : Int) := by
          have := Int.emod_nonneg z (show ((d.pend k).length : Int) + 1 ≠ 0 by omega)
          rw [← HT.out, pickOf, if_pos hp, HZ.out]
          omega
        have K42 : Hid (∀ w', Calls Tryd.prog 46 #[.int .i64 z, .int .i64 ((d.pend k).length : Int)] w' fun e w'' => e = .returned (.int .i64 (t : Int)) ∧ w'' = w') := fun w' => by
          rw [← htz]; exact choice_any z _ w' z1 z2 hcount
        have K36 : Hid (∀ w', w'.heap = wr.heap → Calls Tryd.prog 45 #[.pointer (some ⟨p, 0, none⟩), .int .i64 (k : Int), .int .i64 (t : Int)] w' fun e w'' => e = .returned (.agg (cv (d.crashBase l k)).toArray) ∧ Below w'.heap.size w' w'') := fun w' hw => by
          rw [← HC.out]; exact state_any p fb pb tb d k t w' ((h.below hA.bel).heap hw) hkn htle
        have HBC : Hid ((d.crashBase l k).length = 512 ∧ ∀ i, (d.crashBase l k).getD i 0 < 256) := crashBase_ok h.ok l k
        have hcf : w.heap.size ≤ cf := HNEW.out cf (by simp [fp])
        obtain ⟨s1, s2, s3, s4⟩ := hS0
        have s4d := (h.below hA.bel).lookT k hkn wr.drew rfl
        clear htz hpne hcount
        go_wp2
        go_region_held3 (fun w' => w'.cell? ⟨c, 1, none⟩ = some (.map (some cf)) ∧ w'.cell? ⟨b0, o0 + j, none⟩ = some (.int .i64 z) ∧ w'.cell? ⟨p, 3, none⟩ = some (.map (some tb)) ∧ (Instr.lookup 30 (.map (some tb)) (.int .i64 (k : Int)) false).run Tryd.prog w' = .ok (.int .i64 ((d.pend k).length : Int)) w')
          (first | exact ⟨s1, s2, s3, s4d⟩ | exact hS4 | exact hS5)
          (first
            | (go_at_call 46; refine (K42.out _).mono ?_; rintro e w3 ⟨rfl, hw⟩; subst w3)
            | (go_at_call 45; refine (K36.out _ (by rfl)).mono ?_; rintro e w4 ⟨rfl, hb⟩; have hb4 : Below wr.heap.size wr w4 := ⟨hb.os, hb.tape, hb.output, hb.size, hb.block⟩; have hbw4 : Below w.heap.size w w4 := hA.bel.trans (hb4.mono hA.bel.size); have hn4 := hA.new.below hb4; have hS4 := crS (h.below hbw4) hn4 (hl.below hbw4) hp hkn; rw [HZ.out] at hS4; obtain ⟨es, cl, r1, r2⟩ := hn4.storeF k (d.crashBase l k) HBC.out; have r := r1 w4 rfl; have hn5 := r2 w4 (fun _ _ => rfl); have hbw5 : Below w.heap.size w (setBlock w4 cf (.map es cl)) := hbw4.trans (((Keeps.refl [cf] w4).setBlock cf _ (by simp)).below (by simpa using hcf) hbw4.size); have hS5 := crS (h.below hbw5) hn5 (hl.below hbw5) hp hkn; rw [HZ.out] at hS5; clear r1 r2))
        all_goals go_wp2
        have hst := hA.at'.step h.ok hK hjl (d.crashBase l k) (by rw [HK.out])
        rw [HK.out] at hst
        obtain ⟨F5, m5, ⟨es5, cl5, hb5, _⟩, _⟩ := hn4.fm
        exact ⟨⟨j + 1, _, by omega, by go_num, hn5, hst, (hA.row.below hb4).setBlock hb5 _, hbw5⟩, by simp [iof]; omega⟩
      · have hpI : (l.length : Int) ≤ (j : Int) := by omega
        have hin : DevIs wr c cf cp ct (d.crash l) := hA.new.rebase _ (fun k hk => (hA.at'.last hK (.inr (by omega)) k hk).symm) (crashBase_ok h.ok l)
        go_wp2
        go_ret
        exact ⟨c, cf, cp, ct, rfl, hin, HNEW.out, hA.bel⟩
    · obtain rfl : j = ks.length := by omega
      have hin : DevIs wr c cf cp ct (d.crash l) := hA.new.rebase _ (fun k hk => (hA.at'.last hK (.inl (Nat.le_refl _)) k hk).symm) (crashBase_ok h.ok l)
      go_wp2
      go_ret
      exact ⟨c, cf, cp, ct, rfl, hin, HNEW.out, hA.bel⟩
end Go.Proofs.YtohncckmennfbaaDoor
