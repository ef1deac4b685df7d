/- The walk of DeviceSelf: true for every argument. -/
import Derived.Test.YtlieckifnkngnaaCuw
namespace Go.Proofs.Ytlieckifnkngnaa
set_option linter.unusedSimpArgs false
set_option linter.unusedVariables false
open Go.RowKit Go.MapKept
theorem Fam.swap2 {B : Nat} {w : World} {G : List Nat} {a b c : Nat × Dv} {r : List (Nat × Dv)} (h : Fam B w G (a :: b :: c :: r)) : Fam B w G (a :: c :: b :: r) := by
  obtain ⟨p, d⟩ := a
  obtain ⟨F, hd, hF, hr⟩ := h
  exact ⟨F, hd, hF, hr.swap⟩
theorem was55 (w : World) (C : Nat → List Nat) : WasAt (w.alloc (.cells #[.slice none 0 0, .slice none 0 0, .slice none 0 0, .slice none 0 0, .slice none 0 0] 55)) w.heap.size 55 5 [] C :=
  ⟨heap_alloc_new w _, fun k hk => by simp at hk⟩
/-- A device of five blocks, the first k of them written over. -/
structure Ov (d : Dv) (s k : Nat) (v : Int) : Prop where
  pl : Pl 5 d (s + k)
  cur : ∀ x, x < k → d.cur x = bb v
theorem Ov.step {d : Dv} {s k : Nat} {v : Int} (h : Ov d s k v) : Ov (d.tick.add k (bb v)) s (k + 1) v := by
  refine ⟨by have := h.pl.add k (bb v); rwa [show s + k + 1 = s + (k + 1) by omega] at this, fun x hx => ?_⟩
  rw [cur_add, cur_tick]
  split
  · rfl
  · exact h.cur x (by omega)
set_option maxRecDepth 100000 in
set_option maxHeartbeats 8000000 in
theorem deviceSelf_walk (a0 : Option Addr) (cap0 : Nat) (l0 : List Int) (a1 : Option Addr) (cap1 : Nat) (l1 : List Int) (w : World) (w0 : RowI w a0 l0) (m0 : l0.length ≤ maxLen) (w1 : RowI w a1 l1) (m1 : l1.length ≤ maxLen) :
    Calls Try.prog 8 #[.slice a0 l0.length cap0, .slice a1 l1.length cap1] w fun e w' => e = .returned (.bool true) ∧ Below w.heap.size w w' := by
  unfold maxLen at m0 m1
  by_cases h0 : 40 < l0.length
  · have h0I : 40 < (l0.length : Int) := by omega
    go_enter Try.func8, Try.ntmps8
    go_wp2_with (go_at_call 12; refine (awake_any _).mono ?_; rintro e w2 ⟨rfl, hb⟩)
    go_ret
    exact ⟨rfl, by assumption⟩
  by_cases h1 : 100 < l1.length
  · have h0I : ¬ 40 < (l0.length : Int) := by omega
    have h1I : 100 < (l1.length : Int) := by omega
    go_enter Try.func8, Try.ntmps8
    go_wp2_with (go_at_call 12; refine (awake_any _).mono ?_; rintro e w2 ⟨rfl, hb⟩)
    go_ret
    exact ⟨rfl, by assumption⟩
  have h0I : ¬ 40 < (l0.length : Int) := by omega
  have h1I : ¬ 100 < (l1.length : Int) := by omega
  have hF0 : Fam w.heap.size w [] [] := trivial
  go_enter Try.func8, Try.ntmps8
  go_wp2_with (go_at_call 13; refine (famNew hF0 (by simp) (Nat.le_refl _) 5 (by omega) (by omega)).mono ?_; rintro e u1 ⟨p, rfl, hF1, hb1⟩)
  have hs1 := hb1.size
  go_loopw [7] (fun i wr => ∃ (j s : Nat) (d : Dv), j ≤ l0.length ∧ s ≤ 2 * j ∧ i = .int .i64 (j : Int) ∧ Pl 5 d s ∧ Fam w.heap.size wr [] [(p, d)] ∧ Below w.heap.size w wr) (fun i _ => l0.length - (iof i).toNat)
  case atStart => exact ⟨0, 0, _, by omega, by omega, rfl, Pl.fresh 5 _, hF1, hb1⟩
  case round =>
    clear hF1 hF0 hb1
    obtain ⟨j, s, d, hj, hs, rfl, hP, hF, hB⟩ := hrel
    by_cases hjl : j < l0.length
    · have hjI : (j : Int) < (l0.length : Int) := by omega
      obtain ⟨b0, o0, z, k, rfl, hcell, hk, K27⟩ := loopR w0 hB hjl 5 (by omega) (by omega)
      have H27 : Hid (∀ w', Calls Try.prog 27 #[.int .i64 z, .int .i64 5] w' fun e w'' => e = .returned (.int .i64 ((k : Nat) : Int)) ∧ w'' = w') := K27
      have HW : Hid _ := loopW hF (by simp) hB (Nat.le_refl _) hP (by omega) k hk ((j : Int) + 1)
      have HP2 : Hid (Pl 5 (d.tick.add k (bb ((j : Int) + 1))) (s + 1)) := hP.add _ _
      have KF : Hid (∀ w', Fam w.heap.size w' [] [(p, d.tick.add k (bb ((j : Int) + 1)))] → Below w.heap.size w w' → Calls Try.prog 23 #[.pointer (some ⟨p, 0, none⟩)] w' fun e w'' => e = .returned (.int .i64 0) ∧ Fam w.heap.size w'' [] [(p, (d.tick.add k (bb ((j : Int) + 1))).flushed)] ∧ Below w.heap.size w w'') := fun w' hF hB => by
        refine (famF hF (by simp) hB.size (by rw [HP2.out.ops]; omega)).mono ?_
        rintro e w'' ⟨rfl, hF, hS, hB2, _⟩
        exact ⟨by rw [HP2.out.on]; rfl, hF, hB.trans hB2⟩
      clear K27 hP hF
      by_cases h4 : (j : Int) % 4 = 3
      · have h4b : ((j : Int) % 4 == 3) = true := by simpa using h4
        clear h4
        go_wp2_with (first
          | (go_at_call 27; refine (H27.out _).mono ?_; rintro e v1 ⟨rfl, hw⟩; subst v1)
          | (go_at_call 20; refine (block_any _ _).mono ?_; rintro e v2 ⟨g2, rfl, f2, _, hb2⟩)
          | (go_at_call 22; refine Calls.mono (HW.out _ _ hb2 f2) ?_; rintro e v3 ⟨rfl, hF3, _, hB3, _⟩)
          | (go_at_call 23; refine (KF.out _ hF3 hB3).mono ?_; rintro e v4 ⟨rfl, hF4, hB4⟩))
        exact ⟨⟨j + 1, s + 1 + 1, _, by omega, by omega, by go_num, HP2.out.flush, hF4, hB4⟩, by simp [iof]; omega⟩
      · have h4b : ((j : Int) % 4 == 3) = false := by simpa using h4
        clear h4
        go_wp2_with (first
          | (go_at_call 27; refine (H27.out _).mono ?_; rintro e v1 ⟨rfl, hw⟩; subst v1)
          | (go_at_call 20; refine (block_any _ _).mono ?_; rintro e v2 ⟨g2, rfl, f2, _, hb2⟩)
          | (go_at_call 22; refine Calls.mono (HW.out _ _ hb2 f2) ?_; rintro e v3 ⟨rfl, hF3, _, hB3, _⟩))
        exact ⟨⟨j + 1, s + 1, _, by omega, by omega, by go_num, HP2.out, hF3, hB3⟩, by simp [iof]; omega⟩
    · obtain rfl : j = l0.length := by omega
      have hz := hB.size
      have HP : Hid (Pl 5 d s) := hP
      have hsI : (s : Int) ≤ 1000 := by omega
      clear hP
      go_wp2
      obtain ⟨g, HG⟩ : ∃ g, Hid (wr.heap.size = g) := ⟨_, rfl⟩
      have hgB : w.heap.size ≤ g := by rw [← HG.out]; exact hz
      have hbA : Below wr.heap.size wr (wr.alloc (.cells #[.slice none 0 0, .slice none 0 0, .slice none 0 0, .slice none 0 0, .slice none 0 0] 55)) := (Below.refl _ _).alloc (Nat.le_refl _) _
      have hF3 := hF.cons hbA wr.heap.size (Nat.le_refl _)
      have hW3 := was55 wr d.cur
      have hB3 : Below w.heap.size w (wr.alloc (.cells #[.slice none 0 0, .slice none 0 0, .slice none 0 0, .slice none 0 0, .slice none 0 0] 55)) := hB.trans (hbA.mono hz)
      rw [HG.out] at hF3 hW3 ⊢
      clear hF hbA hB
      go_loopw [9] (fun i wr => ∃ (k : Nat) (R : List Nat), k ≤ 5 ∧ i = .int .i64 (k : Int) ∧ R.length = k ∧ Fam w.heap.size wr (g :: R) [(p, d)] ∧ WasAt wr g 55 5 R d.cur ∧ Below w.heap.size w wr) (fun i _ => 5 - (iof i).toNat)
      case atStart => exact ⟨0, [], by omega, rfl, rfl, hF3, hW3, hB3⟩
      case round =>
        clear hF3 hW3 hB3
        obtain ⟨k, R, hk, rfl, rfl, hF, hW, hB⟩ := hrel
        by_cases hk7 : R.length < 5
        · have hkI : (R.length : Int) < 5 := by omega
          have KR : Hid (Calls Try.prog 18 #[.pointer (some ⟨p, 0, none⟩), .int .i64 (R.length : Int)] wr fun e w'' => ∃ g', e = .returned (.tuple #[.slice (some ⟨g', 0, none⟩) 512 512, .int .i64 0]) ∧ Full w'' g' 75 (d.cur R.length) ∧ wr.heap.size ≤ g' ∧ Below wr.heap.size wr w'') := famR hF R.length (by rw [HP.out.n]; exact hk7)
          have HK7 : Hid (R.length < 5) := hk7
          go_wp2_with (first
            | (go_at_call 18; refine Calls.mono KR.out ?_; rintro e v3 ⟨g3, rfl, f3, hg3, hb3⟩; have hW3 := hW.below hb3; have hc3 := hW3.cellNil HK7.out; have hf3 := frozen_of_row v3 g R.length _ _ hW3.arr))
          have hne : ∀ x ∈ g3 :: R, x ≠ g := by
            intro x hx e
            have hgl := hW.lt g (by simp)
            rcases List.mem_cons.1 hx with rfl | q
            · omega
            · obtain ⟨i, hi, rfl⟩ := mem_take q
              have a := hW.rows i hi
              have b := hW.arr
              unfold Full at a
              rw [e, b] at a
              injection a with t
              injection t with _ t2
              exact absurd t2 (by decide)
          have hF3 : Fam w.heap.size v3 (g :: (R ++ [g3])) [(p, d)] := (hF.cons hb3 g3 hg3).mono fun x hx => .inl (by
            simp only [List.mem_cons, List.mem_append, List.mem_singleton, List.not_mem_nil, or_false] at hx ⊢
            rcases hx with q | q | q
            · exact .inr (.inl q)
            · exact .inr (.inr q)
            · exact .inl q)
          exact ⟨⟨R.length + 1, R ++ [g3], by omega, by go_num, by simp, hF3.keeps (Keeps.ofSet _ _ _ _ _ (by simp)), hW3.store HK7.out g3 f3 hne, (hB.trans (hb3.mono hB.size)).setCell hgB _⟩, by simp [iof]; omega⟩
        · have HR : Hid (R.length = 5) := by show _ = _; omega
          have hR7 : ((R.length : Nat) : Int) = 5 := by have := HR.out; omega
          rw [hR7]
          have hz := hB.size
          have K24 : Hid (Calls Try.prog 24 #[.pointer (some ⟨p, 0, none⟩)] wr fun e w' => e = .returned (.int .i64 (s : Int)) ∧ w' = wr) := by
            obtain ⟨F0, hd0⟩ := hF.head
            have := opsD hd0
            rw [HP.out.ops] at this
            exact this
          have K25 : Hid (Calls Try.prog 25 #[.pointer (some ⟨p, 0, none⟩), .slice a1 l1.length cap1] wr fun e w'' => ∃ c, e = .returned (.pointer (some ⟨c, 0, none⟩)) ∧ Fam w.heap.size w'' (g :: R) [(c, d.crash l1), (p, d)] ∧ WasAt w'' g 55 5 R d.cur ∧ Below w.heap.size w w'') := by
            refine (famC hF hW.lt hz a1 l1 cap1 (w1.below hB) (by omega)).mono ?_
            rintro e w'' ⟨c, rfl, hF2, hb⟩
            exact ⟨c, rfl, hF2, hW.below hb, hB.trans (hb.mono hz)⟩
          have K26 : Hid (∀ w' c, Fam w.heap.size w' (g :: R) [(c, d.crash l1), (p, d)] → WasAt w' g 55 5 R d.cur → Below w.heap.size w w' → Calls Try.prog 26 #[.pointer (some ⟨p, 0, none⟩)] w' fun e w'' => ∃ b, e = .returned (.pointer (some ⟨b, 0, none⟩)) ∧ Fam w.heap.size w'' (g :: R) [(c, d.crash l1), (b, d), (p, d)] ∧ WasAt w'' g 55 5 R d.cur ∧ Below w.heap.size w w'') := fun w' c hF hW hB => by
            refine (famCopy hF.swap hW.lt hB.size).mono ?_
            rintro e w'' ⟨b, rfl, hF2, hb⟩
            exact ⟨b, rfl, hF2.swap2.swap, hW.below hb, hB.trans (hb.mono hB.size)⟩
          have HA0 : Hid (Ov (d.crash l1) 0 0 201) := ⟨⟨HP.out.n, rfl, rfl⟩, fun x hx => by omega⟩
          have HB0 : Hid (Ov d s 0 202) := ⟨HP.out, fun x hx => by omega⟩
          clear hk hk7 hF hW
          go_wp2_with (first
            | (go_at_call 24; refine Calls.mono K24.out ?_; rintro e v1 ⟨rfl, hw⟩; subst v1)
            | (go_at_call 25; refine Calls.mono K25.out ?_; rintro e v2 ⟨ca, rfl, hF2, hW2, hB2⟩)
            | (go_at_call 26; refine (K26.out _ _ hF2 hW2 hB2).mono ?_; rintro e v3 ⟨cb, rfl, hF3, hW3, hB3⟩; clear hF2 hW2 hB2))
          go_loopw [13] (fun i wr => ∃ (k : Nat) (da db : Dv), k ≤ 5 ∧ i = .int .i64 (k : Int) ∧ Ov da 0 k 201 ∧ Ov db s k 202 ∧ Fam w.heap.size wr (g :: R) [(ca, da), (cb, db), (p, d)] ∧ WasAt wr g 55 5 R d.cur ∧ Below w.heap.size w wr) (fun i _ => 5 - (iof i).toNat)
          case atStart => exact ⟨0, _, _, by omega, rfl, HA0.out, HB0.out, hF3, hW3, hB3⟩
          case round =>
            clear hF3 hW3 hB3 K24 K25 K26
            obtain ⟨k, da, db, hk, rfl, hOa, hOb, hF, hW, hB⟩ := hrel
            by_cases hk5 : k < 5
            · have hkI : (k : Int) < 5 := by omega
              have HWa : Hid _ := loopW hF hW.lt hB (Nat.le_refl _) hOa.pl (by omega) k hk5 201
              have HWb : Hid (∀ w' g', Fam w.heap.size w' (g :: R) [(ca, da.tick.add k (bb 201)), (cb, db), (p, d)] → WasAt w' g 55 5 R d.cur → Below w.heap.size w w' → Full w' g' 5 (bb 202) → Calls Try.prog 22 #[.pointer (some ⟨cb, 0, none⟩), .int .i64 (k : Int), .slice (some ⟨g', 0, none⟩) 512 512] w' fun e w'' => e = .returned (.int .i64 0) ∧ Fam w.heap.size w'' (g :: R) [(ca, da.tick.add k (bb 201)), (cb, db.tick.add k (bb 202)), (p, d)] ∧ WasAt w'' g 55 5 R d.cur ∧ Below w.heap.size w w'') := fun w' g' hF hW hB hf => by
                refine (famWb hF.swap hW.lt hB.size k (by rw [hOb.pl.n]; exact hk5) hOb.pl.on (by rw [hOb.pl.ops]; omega) g' 202 hf).mono ?_
                rintro e w'' ⟨rfl, hF2, hS, hB2, _⟩
                exact ⟨rfl, hF2.swap, hW.blk hS, hB.trans hB2⟩
              have HN1 : Hid (Ov (da.tick.add k (bb 201)) 0 (k + 1) 201) := hOa.step
              have HN2 : Hid (Ov (db.tick.add k (bb 202)) s (k + 1) 202) := hOb.step
              have HWS : Hid (∀ w', Same (g :: R) wr w' → WasAt w' g 55 5 R d.cur) := fun w' hS => hW.blk hS
              clear hOa hOb hF hW
              go_wp2_with (first
                | (go_at_call_of 20 (Value.int IntKind.i64 201); refine (block_any _ _).mono ?_; rintro e v2 ⟨g2, rfl, f2, _, hb2⟩)
                | (go_at_call_of 22 (Value.pointer (some ⟨ca, 0, none⟩)); refine Calls.mono (HWa.out _ _ hb2 f2) ?_; rintro e v3 ⟨rfl, hF3, hS3, hB3, _⟩; have hW3 := HWS.out _ hS3)
                | (go_at_call_of 20 (Value.int IntKind.i64 202); refine (block_any _ _).mono ?_; rintro e v4 ⟨g4, rfl, f4, _, hb4⟩; have hF4 := hF3.below hb4; have hW4 := hW3.below hb4; have hB4 : Below w.heap.size w v4 := hB3.trans (hb4.mono hB3.size))
                | (go_at_call 22; refine (HWb.out _ _ hF4 hW4 hB4 f4).mono ?_; rintro e v5 ⟨rfl, hF5, hW5, hB5⟩))
              exact ⟨⟨k + 1, _, _, by omega, by go_num, HN1.out, HN2.out, hF5, hW5, hB5⟩, by simp [iof]; omega⟩
            · obtain rfl : k = 5 := by omega
              obtain ⟨Fa, hda⟩ := hF.head
              obtain ⟨Fb, hdb⟩ := hF.swap.head
              obtain ⟨Fd, hdd⟩ := (hF.swap2.swap).head
              have HOa : Hid (Ov da 0 5 201) := hOa
              have HOb : Hid (Ov db s 5 202) := hOb
              clear hOa hOb hF
              rw [show ((5 : Nat) : Int) = (5 : Int) from rfl]
              go_wp2
              go_loopw [14] (fun i wr => ∃ k : Nat, k ≤ 5 ∧ i = .int .i64 (k : Int) ∧ Dev wr ca Fa da ∧ Dev wr cb Fb db ∧ Dev wr p Fd d ∧ WasAt wr g 55 5 R d.cur ∧ Below w.heap.size w wr) (fun i _ => 5 - (iof i).toNat)
              case atStart => exact ⟨0, by omega, rfl, hda, hdb, hdd, hW, hB⟩
              case round =>
                clear hda hdb hdd hW hB
                obtain ⟨k, hk, rfl, hda, hdb, hdd, hW, hB⟩ := hrel
                by_cases hk5 : k < 5
                · have hkI : (k : Int) < 5 := by omega
                  have KR1 : Hid (Calls Try.prog 18 #[.pointer (some ⟨p, 0, none⟩), .int .i64 (k : Int)] wr fun e w'' => ∃ g', e = .returned (.tuple #[.slice (some ⟨g', 0, none⟩) 512 512, .int .i64 0]) ∧ Full w'' g' 75 (d.cur k) ∧ wr.heap.size ≤ g' ∧ Below wr.heap.size wr w'') := readD hdd k (by rw [HP.out.n]; exact hk5)
                  have KR2 : Hid (∀ w', Below wr.heap.size wr w' → Calls Try.prog 18 #[.pointer (some ⟨ca, 0, none⟩), .int .i64 (k : Int)] w' fun e w'' => ∃ g', e = .returned (.tuple #[.slice (some ⟨g', 0, none⟩) 512 512, .int .i64 0]) ∧ Full w'' g' 75 (bb 201) ∧ w'.heap.size ≤ g' ∧ Below w'.heap.size w' w'') := fun w' hb => by
                    have := readD (hda.below hb) k (by rw [HOa.out.pl.n]; exact hk5)
                    rw [HOa.out.cur k hk5] at this
                    exact this
                  have KR3 : Hid (∀ w', Below wr.heap.size wr w' → Calls Try.prog 18 #[.pointer (some ⟨cb, 0, none⟩), .int .i64 (k : Int)] w' fun e w'' => ∃ g', e = .returned (.tuple #[.slice (some ⟨g', 0, none⟩) 512 512, .int .i64 0]) ∧ Full w'' g' 75 (bb 202) ∧ w'.heap.size ≤ g' ∧ Below w'.heap.size w' w'') := fun w' hb => by
                    have := readD (hdb.below hb) k (by rw [HOb.out.pl.n]; exact hk5)
                    rw [HOb.out.cur k hk5] at this
                    exact this
                  have HOC : Hid ((d.cur k).length = 512 ∧ ∀ i, (d.cur k).getD i 0 < 256) := hdd.ok.cur k
                  have HKR : Hid (k < R.length) := by show _ < _; rw [HR.out]; exact hk5
                  obtain ⟨gk, HGK⟩ : ∃ gk, Hid (R.getD k 0 = gk) := ⟨_, rfl⟩
                  have tok1 : True := trivial
                  have tok2 : True := trivial
                  go_wp2_with (first
                    | (go_at_call_of 18 (Value.pointer (some ⟨p, 0, none⟩)); refine Calls.mono KR1.out ?_; rintro e v3 ⟨g3, rfl, f3, _, hb3⟩)
                    | (go_at_call_of 18 (Value.pointer (some ⟨ca, 0, none⟩)); refine (KR2.out _ hb3).mono ?_; rintro e v4 ⟨g4, rfl, f4, _, hb4⟩; have f3 := f3.below hb4; have hb34 : Below wr.heap.size wr v4 := hb3.trans (hb4.mono hb3.size))
                    | (go_at_call 18; refine (KR3.out _ hb34).mono ?_; rintro e v5 ⟨g5, rfl, f5, _, hb5⟩; have f3 := f3.below hb5; have f4 := f4.below hb5; have hb35 : Below wr.heap.size wr v5 := hb34.trans (hb5.mono hb34.size); have hW5 := hW.below hb35; have hc5 := hW5.cell k HKR.out; have r5 := hW5.rows k HKR.out; rw [HGK.out] at hc5 r5)
                    | (go_at_call 19; have _t := tok1; refine (alike_yes f3 r5 HOC.out.1 HOC.out.2).mono ?_; rintro e v6 ⟨rfl, hb6⟩; have f4 := f4.below hb6; have f5 := f5.below hb6; clear tok1 _t)
                    | (go_at_call_of 20 (Value.int IntKind.i64 201); refine (block_any _ _).mono ?_; rintro e v7 ⟨g7, rfl, f7, _, hb7⟩; have f4 := f4.below hb7; have f5 := f5.below hb7)
                    | (go_at_call 19; have _t := tok2; refine (alike_yes f4 f7 (bb_len _) (bb_lt _)).mono ?_; rintro e v8 ⟨rfl, hb8⟩; have f5 := f5.below hb8; clear tok2 _t)
                    | (go_at_call_of 20 (Value.int IntKind.i64 202); refine (block_any _ _).mono ?_; rintro e v9 ⟨g9, rfl, f9, _, hb9⟩; have f5 := f5.below hb9)
                    | (go_at_call 19; refine (alike_yes f5 f9 (bb_len _) (bb_lt _)).mono ?_; rintro e v10 ⟨rfl, hb10⟩))
                  have q6 : Below wr.heap.size wr v6 := hb35.trans (hb6.mono hb35.size)
                  have q7 : Below wr.heap.size wr v7 := q6.trans (hb7.mono q6.size)
                  have q8 : Below wr.heap.size wr v8 := q7.trans (hb8.mono q7.size)
                  have q9 : Below wr.heap.size wr v9 := q8.trans (hb9.mono q8.size)
                  have q10 : Below wr.heap.size wr v10 := q9.trans (hb10.mono q9.size)
                  exact ⟨⟨k + 1, by omega, by go_num, hda.below q10, hdb.below q10, hdd.below q10, hW.below q10, hB.trans (q10.mono hB.size)⟩, by simp [iof]; omega⟩
                · obtain rfl : k = 5 := by omega
                  have K1 : Hid (Calls Try.prog 24 #[.pointer (some ⟨p, 0, none⟩)] wr fun e w' => e = .returned (.int .i64 (s : Int)) ∧ w' = wr) := by
                    have := opsD hdd
                    rw [HP.out.ops] at this
                    exact this
                  have K2 : Hid (Calls Try.prog 24 #[.pointer (some ⟨ca, 0, none⟩)] wr fun e w' => e = .returned (.int .i64 5) ∧ w' = wr) := by
                    have := opsD hda
                    rw [HOa.out.pl.ops] at this
                    exact this
                  have K3 : Hid (Calls Try.prog 24 #[.pointer (some ⟨cb, 0, none⟩)] wr fun e w' => e = .returned (.int .i64 ((s : Int) + 5)) ∧ w' = wr) := by
                    have := opsD hdb
                    rw [HOb.out.pl.ops] at this
                    rw [show ((s + 5 : Nat) : Int) = (s : Int) + 5 by omega] at this
                    exact this
                  have eS := eqI (s : Int)
                  have eS5 := eqI ((s : Int) + 5)
                  go_wp2_with (first
                    | (go_at_call_of 24 (Value.pointer (some ⟨p, 0, none⟩)); refine Calls.mono K1.out ?_; rintro e v1 ⟨rfl, hw⟩; subst v1)
                    | (go_at_call_of 24 (Value.pointer (some ⟨ca, 0, none⟩)); refine Calls.mono K2.out ?_; rintro e v1 ⟨rfl, hw⟩; subst v1)
                    | (go_at_call 24; refine Calls.mono K3.out ?_; rintro e v1 ⟨rfl, hw⟩; subst v1)
                    | (go_at_call 12; refine (awake_any _).mono ?_; rintro e v3 ⟨rfl, hb3⟩))
                  go_ret
                  exact ⟨rfl, hB.trans (hb3.mono hB.size)⟩
end Go.Proofs.Ytlieckifnkngnaa
