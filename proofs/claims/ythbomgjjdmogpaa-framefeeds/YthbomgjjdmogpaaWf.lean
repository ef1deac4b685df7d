/- The walk of FrameFeeds. -/
import Derived.Test.YthbomgjjdmogpaaMg
namespace Go.Proofs.Ythbomgjjdmogpaa
set_option linter.unusedSimpArgs false
set_option linter.unusedVariables false
open Go.RowKit
/-- Both Feeders, alike. -/
structure Both (w : World) (B pf pm : Nat) (vf : Value) (a : Option Addr) (c : Nat) (q : List Nat) (sh : Bool) (x : World) : Prop where
  fe : FeIs x B pf vf q sh
  m : MIs x pm a c q sh
  ne : pm ∉ fp pf vf
  row : InE x (fp pf vf) a c q
  bel : Below B w x
  hB : B ≤ x.heap.size
  ge : B ≤ pm
theorem feedS_len (sh : Bool) (q l : List Nat) : ∀ f, f ∈ (feedS sh q l).1 → f.length ≤ 8192 := by
  cases sh
  · exact frames_len (q ++ l)
  · intro f hf; simp [feedS] at hf
/-- Behind the program's Feed. -/
structure Mid (w : World) (B pf pm : Nat) (vf : Value) (a : Option Addr) (c : Nat) (q q' : List Nat) (sh sh' : Bool) (T : Value) (fs : List Fr) (r : List (List Nat)) (x : World) : Prop where
  fe : FeIs x B pf vf q' sh'
  m : MIs x pm a c q sh
  ne : pm ∉ fp pf vf
  owns : ∃ B', x.ownsRow B' 23 1 T fs.length (fs.map Fr.v)
  all : AllF x (fp pf vf) fs
  map : fs.map (·.b) = r
  bel : Below B w x
  hB : B ≤ x.heap.size
  ge : B ≤ pm
theorem Both.feed {w x : World} {B pf pm : Nat} {vf : Value} {a : Option Addr} {c : Nat} {q : List Nat} {sh : Bool} (h : Both w B pf pm vf a c q sh x) {b : Option Addr} {cap : Nat} {l : List Nat} (hi : InE w [] b cap l) (hB : w.heap.size = B) (hl : l.length ≤ 20000) :
    Calls Try.prog 12 #[.pointer (some ⟨pf, 0, none⟩), .slice b l.length cap] x fun e w2 => ∃ T fs v', e = .returned (.tuple #[T, .bool (feedS sh q l).2.1]) ∧ Mid w B pf pm v' a c q (feedS sh q l).2.2 sh (!(feedS sh q l).2.1) T fs (feedS sh q l).1 w2 := by
  refine (feed_any B pf vf q sh b cap l x h.fe (hi.arg h.bel hB (fun z hz => (h.fe.lts z hz).1)) h.hB (by omega)).mono ?_
  rintro e w2 ⟨T, fs, v', rfl, ho, hfs, hall, hfe, hk, hv, hbl⟩
  have hpm : pm < x.heap.size := (Array.getElem?_eq_some_iff.1 h.m.box).1
  have hm2 : w2.heap[pm]? = x.heap[pm]? := hk.block pm hpm h.ne
  have hrow : InE w2 [pm] a c q := by
    have h1 := h.row.to hk (F := fp pf vf) (fun z hz => .inl hz)
    exact ⟨h1.row, h1.le, h1.max, h1.nil, h.m.row.off⟩
  refine ⟨T, fs, v', rfl, ⟨hfe, ⟨by rw [hm2]; exact h.m.box, hrow, h.m.off⟩, fun hm => ?_, ⟨_, ho⟩, hall, hfs, FDP.below (F := []) h.fe hk h.bel h.hB, Nat.le_trans h.hB hk.size, h.ge⟩⟩
  rcases mem_fp.1 hm with e | e
  · exact h.ne (mem_fp.2 (.inl e))
  · rcases hv pm e with q | q
    · exact h.ne (mem_fp.2 (.inr q))
    · omega
theorem Mid.feed {w x : World} {B pf pm : Nat} {vf : Value} {a : Option Addr} {c : Nat} {q q' : List Nat} {sh sh' : Bool} {T : Value} {fs : List Fr} {l : List Nat} (h : Mid w B pf pm vf a c q q' sh sh' T fs (feedS sh q l).1 x) (hq' : q' = (feedS sh q l).2.2) (hs' : sh' = (!(feedS sh q l).2.1)) {b : Option Addr} {cap : Nat} (hi : InE w [] b cap l) (hB : w.heap.size = B) (hl : l.length ≤ 20000) (hq : q.length ≤ 8195) :
    Calls Try.prog 13 #[.pointer (some ⟨pm, 0, none⟩), .slice b l.length cap] x fun e w2 => ∃ T2 a' c', e = .returned (.tuple #[T2, .bool (feedS sh q l).2.1]) ∧ Both w B pf pm vf a' c' q' sh' w2 ∧ ∀ n, Calls Try.prog 14 #[T, T2] (w2.drewN n) (fun e w' => e = .returned (.bool true) ∧ ∃ m, w' = w2.drewN m) := by
  refine (mfeed_any pm a c q sh b cap l x h.m (hi.arg h.bel hB (fun z hz => by simp at hz; rw [hz]; exact h.ge)) (by omega) (by omega)).mono ?_
  rintro e w2 ⟨T2, fs2, a', c', rfl, ho2, hfs2, hall2, hm2, hk, hnew⟩
  obtain ⟨B', ho⟩ := h.owns
  have hne : ∀ z ∈ fp pf vf, z ∉ [pm] := fun z hz hm => by simp at hm; subst hm; exact h.ne hz
  have hfe2 : FeIs w2 B pf vf q' sh' := h.fe.keeps hk hne
  have hoT : w2.ownsRow B' 23 1 T fs.length (fs.map Fr.v) := hk.owns ho (fun y hy hm => by
    simp at hm
    subst hm
    exact row_box ho h.m.box (by decide) _ hy rfl)
  have hall' : AllF w2 (pm :: fp pf vf) fs := (h.all.more h.m.box (by decide)).keeps hk (fun y hy => .inl (by simp at hy; subst hy; simp))
  refine ⟨T2, a', c', rfl, ⟨hfe2, by rw [hq', hs']; exact hm2, h.ne, ?_, h.bel.trans (hk.below (fun z hz => by simp at hz; rw [hz]; exact h.ge) h.hB), Nat.le_trans h.hB hk.size, h.ge⟩, fun n => (same_told (w := w2.drewN n) hoT ho2 hall' hall2 (by rw [h.map, hfs2]) (by rw [h.map]; exact feedS_len sh q l)).mono (by rintro e w' ⟨rfl, y, rfl⟩; exact ⟨rfl, n + y, World.drewN_drewN _ _ _⟩)⟩
  have h1 := hm2.row
  rw [← hq'] at h1
  refine h1.more (fun _ y hy hm => ?_)
  have := hnew y hy
  have := (h.fe.lts _ hm).2
  omega
theorem Both.drewN {w x : World} {B pf pm : Nat} {vf : Value} {a : Option Addr} {c : Nat} {q : List Nat} {sh : Bool} (h : Both w B pf pm vf a c q sh x) (n : Nat) : Both w B pf pm vf a c q sh (x.drewN n) :=
  ⟨h.fe.drewN n, ⟨h.m.box, h.m.row.keeps ((Keeps.refl [] x).drewN n) (by simp), h.m.off⟩, h.ne, h.row.keeps ((Keeps.refl [] x).drewN n) (by simp), below_drewN h.bel n, h.hB, h.ge⟩
set_option maxHeartbeats 1600000 in
set_option maxRecDepth 100000 in
theorem feeds_many (a : Option Addr) (cap : Nat) (fs : List Fr) (w : World) (hr : RCame w a cap fs) (hn : 100 < fs.length) :
    Calls Try.prog 3 #[.slice a fs.length cap] w fun e w' => e = .returned (.bool true) ∧ Below w.heap.size w w' := by
  have HA : Hid _ := awake_any w
  have HRC : Hid (RCame w a cap fs) := hr
  have hlen := hr.len
  have hnI : (100 : Int) < (fs.length : Int) := by omega
  clear hr
  go_enter Try.func3, Try.ntmps3
  go_wp2_with fail
  go_loopw [3, 4] (fun n i x => ∃ (k : Nat) (z : Int), k ≤ fs.length ∧ i = .int .i64 (k : Int) ∧ n = .int .i64 z ∧ x = w) (fun _ i _ => fs.length - (intOf i).toNat)
  case atStart => exact ⟨0, 0, by omega, rfl, rfl, rfl⟩
  case round =>
    obtain ⟨k, z, hk, rfl, rfl, rfl⟩ := hrel
    by_cases hlt : k < fs.length
    · have hltI : (k : Int) < (fs.length : Int) := by omega
      obtain ⟨g, off, ea, hc⟩ := HRC.out.cells k hlt
      subst ea
      unfold Fr.v at hc
      generalize fs.getD k frz = f at hc
      obtain ⟨fa, fc, fb⟩ := f
      simp only at hc
      go_wp2_with fail
      exact ⟨⟨k + 1, _, by omega, by go_num, rfl, trivial⟩, by simp [intOf]; omega⟩
    · have hltI : ¬ (k : Int) < (fs.length : Int) := by omega
      go_wp2_with (go_at_call 10; refine Calls.mono HA.out ?_; rintro e w9 ⟨rfl, hb9⟩)
      go_ret
      exact ⟨rfl, hb9⟩
set_option maxHeartbeats 1600000 in
set_option maxRecDepth 100000 in
theorem feeds_in (a : Option Addr) (cap : Nat) (fs : List Fr) (w : World) (hr : RCame w a cap fs) (hn : fs.length ≤ 100) :
    Calls Try.prog 3 #[.slice a fs.length cap] w fun e w' => e = .returned (.bool true) ∧ Below w.heap.size w w' := by
  have HA : Hid (∀ x : World, Calls Try.prog 10 #[] x fun e w' => e = .returned (.bool true) ∧ Below x.heap.size x w') := awake_any
  have HRC : Hid (RCame w a cap fs) := hr
  have HSL : Hid (∀ k, sl (fs.take k) ≤ 14073748835123200) := by
    intro k
    have h1 := sl_le (fs := fs.take k) (n := 140737488351232) (fun f hf => (hr.each f (List.mem_of_mem_take hf)).2)
    have h2 : (fs.take k).length ≤ 100 := by rw [List.length_take]; omega
    have := Nat.mul_le_mul_right 140737488351232 h2
    omega
  have hnI : ¬ (100 : Int) < (fs.length : Int) := by omega
  have HN : Hid (Calls Try.prog 11 #[] w fun e w' => ∃ p, e = .returned (.pointer (some ⟨p, 0, none⟩)) ∧ w.heap.size ≤ p ∧ FeIs w' w.heap.size p (.slice none 0 0) [] false ∧ Below w.heap.size w w' ∧ Below w.heap.size w w') := new_fe w.heap.size w w (Below.refl _ _) (Nat.le_refl _)
  obtain ⟨B, HB⟩ : ∃ B, Hid (w.heap.size = B) := ⟨_, rfl⟩
  rw [HB.out] at HN ⊢
  clear hr
  go_enter Try.func3, Try.ntmps3
  go_wp2_with fail
  go_loopw [3, 4] (fun n i x => ∃ (k : Nat), k ≤ fs.length ∧ i = .int .i64 (k : Int) ∧ n = .int .i64 ((sl (fs.take k) : Nat) : Int) ∧ x = w) (fun _ i _ => fs.length - (intOf i).toNat)
  case atStart => exact ⟨0, by omega, rfl, rfl, rfl⟩
  case round =>
    obtain ⟨k, hk, rfl, rfl, rfl⟩ := hrel
    by_cases hlt : k < fs.length
    · have hltI : (k : Int) < (fs.length : Int) := by omega
      obtain ⟨g, off, ea, hc⟩ := HRC.out.cells k hlt
      subst ea
      have HS1 : Hid (sl (fs.take (k + 1)) = sl (fs.take k) + (fs.getD k frz).b.length) := by show _ = _; rw [take_next hlt, sl_app, sl_one]
      have hs1 := HSL.out k
      have hs2 := HSL.out (k + 1)
      rw [HS1.out] at hs2
      unfold Fr.v at hc
      generalize sl (fs.take k) = sk at *
      generalize fs.getD k frz = f at *
      obtain ⟨fa, fc, fb⟩ := f
      simp only at hc HS1 hs2
      go_wp2_with fail
      exact ⟨⟨k + 1, by omega, by go_num, congrArg _ (by rw [HS1.out]; omega), trivial⟩, by simp [intOf]; omega⟩
    · obtain rfl : k = fs.length := by omega
      rw [List.take_length]
      clear hk hlt
      by_cases hbig : 20000 < sl fs
      · have hbI : (20000 : Int) < ((sl fs : Nat) : Int) := by omega
        go_wp2_with (go_at_call 10; refine (HA.out _).mono ?_; rintro e w9 ⟨rfl, hb9⟩)
        go_ret
        exact ⟨rfl, by rw [← HB.out]; exact hb9⟩
      have hbI : ¬ (20000 : Int) < ((sl fs : Nat) : Int) := by omega
      have HLE : Hid (∀ f, f ∈ fs → f.b.length ≤ 20000) := fun f hf => by have := le_sl hf; omega
      have HST : Hid (∀ (w1 : World) (p : Nat), FeIs w1 B p (.slice none 0 0) [] false → Below B wr w1 → Both wr B p w1.heap.size (.slice none 0 0) none 0 [] false (w1.alloc (.cells #[.slice none 0 0, .bool false] 29))) := by
        intro w1 p h1 h2
        have hs : B ≤ w1.heap.size := by have := h2.size; have := HB.out; omega
        have hp := (h1.lts p (by simp [fp])).2
        refine ⟨h1.below (below_box _), ⟨heap_alloc_new w1 _, ⟨Row.nil _ _, by simp, by unfold maxLen; omega, fun _ => rfl, fun h0 => by simp at h0⟩, fun e => by cases e⟩, fun hm => by simp [fp, Value.ownBlock] at hm; omega, ⟨Row.nil _ _, by simp, by unfold maxLen; omega, fun _ => rfl, fun h0 => by simp at h0⟩, h2.alloc hs _, by simp; omega, hs⟩
      go_wp2_with (go_at_call 11; refine Calls.mono HN.out ?_; rintro e w1 ⟨p, rfl, hp, hf1, hb1, hb1'⟩; have HS1 : Hid (Both wr B p w1.heap.size (.slice none 0 0) none 0 [] false (w1.alloc (.cells #[.slice none 0 0, .bool false] 29))) := HST.out w1 p hf1 hb1; clear hf1 hb1 hb1' hp HST)
      obtain ⟨pm, hpm⟩ : ∃ pm, pm = w1.heap.size := ⟨_, rfl⟩
      rw [← hpm] at HS1 ⊢
      clear hpm
      obtain ⟨W, rfl⟩ : ∃ W, W = wr := ⟨_, rfl⟩
      go_loopw [7] (fun i x => ∃ (k : Nat) (vf : Value) (ma : Option Addr) (mc : Nat) (q : List Nat) (sh : Bool), k ≤ fs.length ∧ i = .int .i64 (k : Int) ∧ Both W B p pm vf ma mc q sh x) (fun i _ => fs.length - (intOf i).toNat)
      case atStart => exact ⟨0, _, _, _, _, _, by omega, rfl, HS1.out⟩
      case round =>
        obtain ⟨k, vf, ma, mc, q, sh, hk, rfl, hbo⟩ := hrel
        have HBO : Hid (Both W B p pm vf ma mc q sh wr) := hbo
        clear hbo HS1
        by_cases hlt : k < fs.length
        · have hltI : (k : Int) < (fs.length : Int) := by omega
          obtain ⟨g, off, ea, hcw⟩ := HRC.out.cells k hlt
          subst ea
          have hgW : g < B := by have := World.block_lt_of_cell? _ _ hcw; simp only at this; have := HB.out; omega
          have HCE : Hid (∀ x, Below B W x → x.cell? ⟨g, off + k, none⟩ = some ((fs.getD k frz).v)) := fun x h => by rw [h.cell (p := ⟨g, off + k, none⟩) hgW]; exact hcw
          clear hcw
          have HCM : Hid (InE W [] (fs.getD k frz).a (fs.getD k frz).cap (fs.getD k frz).b) := (HRC.out.each _ (getD_mem hlt)).1
          have HFB : Hid ((fs.getD k frz).b.length ≤ 20000) := HLE.out _ (getD_mem hlt)
          unfold Fr.v at HCE
          generalize fs.getD k frz = f at HCE HCM HFB
          obtain ⟨fa, fc, fb⟩ := f
          simp only at HCE HCM HFB
          have HFD : Hid (Calls Try.prog 12 #[.pointer (some ⟨p, 0, none⟩), .slice fa fb.length fc] wr fun e w2 => ∃ T fs v', e = .returned (.tuple #[T, .bool (feedS sh q fb).2.1]) ∧ Mid W B p pm v' ma mc q (feedS sh q fb).2.2 sh (!(feedS sh q fb).2.1) T fs (feedS sh q fb).1 w2) := HBO.out.feed HCM.out HB.out HFB.out
          have HMD : Hid (∀ x v' T gs, Mid W B p pm v' ma mc q (feedS sh q fb).2.2 sh (!(feedS sh q fb).2.1) T gs (feedS sh q fb).1 x → Calls Try.prog 13 #[.pointer (some ⟨pm, 0, none⟩), .slice fa fb.length fc] x fun e w2 => ∃ T2 a' c', e = .returned (.tuple #[T2, .bool (feedS sh q fb).2.1]) ∧ Both W B p pm v' a' c' (feedS sh q fb).2.2 (!(feedS sh q fb).2.1) w2 ∧ ∀ n, Calls Try.prog 14 #[T, T2] (w2.drewN n) (fun e w' => e = .returned (.bool true) ∧ ∃ m, w' = w2.drewN m)) := fun x v' T gs h => h.feed rfl rfl HCM.out HB.out HFB.out (rest_len HBO.out.fe.rest)
          have hc0 := HCE.out wr HBO.out.bel
          obtain ⟨R, HR⟩ : ∃ R, Hid (feedS sh q fb = R) := ⟨_, rfl⟩
          rw [HR.out] at HFD HMD
          clear HBO
          obtain ⟨r1, ok, q'⟩ := R
          simp only at HFD HMD
          have hoo : (ok != ok) = false := by simp
          go_wp2_with (first
            | (go_at_call 12; refine Calls.mono HFD.out ?_; rintro e w2 ⟨T, gs, v', rfl, hmid⟩; have HC2 : Hid (Calls Try.prog 13 #[.pointer (some ⟨pm, 0, none⟩), .slice fa fb.length fc] w2 fun e w2' => ∃ T2 a' c', e = .returned (.tuple #[T2, .bool ok]) ∧ Both W B p pm v' a' c' q' (!ok) w2' ∧ ∀ n, Calls Try.prog 14 #[T, T2] (w2'.drewN n) (fun e w' => e = .returned (.bool true) ∧ ∃ m, w' = w2'.drewN m)) := HMD.out w2 v' T gs hmid; have hc2 := HCE.out w2 hmid.bel; clear hmid HMD hc0)
            | (go_at_call 13; refine Calls.mono HC2.out ?_; rintro e w3 ⟨T2, a', c', rfl, hbo3, hs3⟩; have HB3 : Hid (Both W B p pm v' a' c' q' (!ok) w3) := hbo3; have HS3 : Hid (∀ n, Calls Try.prog 14 #[T, T2] (w3.drewN n) (fun e w' => e = .returned (.bool true) ∧ ∃ m, w' = w3.drewN m)) := hs3; have z0 := (box2_cells hbo3.m.box).1; clear hbo3 hs3 HC2 hc2))
          have HW3 : Hid (∀ n, Calls Try.prog 15 #[.pointer (some ⟨p, 0, none⟩)] (w3.drewN n) fun e w' => e = .returned (.int .i64 (q'.length : Int)) ∧ ∃ m, w' = w3.drewN m) := fun n => (waiting_any B p v' _ _ _ (HB3.out.fe.drewN n)).mono (by rintro e w' ⟨rfl, y, rfl⟩; exact ⟨rfl, n + y, World.drewN_drewN _ _ _⟩)
          have hqq : ((q'.length : Int) != (q'.length : Int)) = false := by simp
          go_quiet (first
            | (go_at_call 14; exact HS3.out _)
            | (go_at_call 15; exact HW3.out _))
          go_wp2_with fail
          exact ⟨⟨k + 1, v', a', c', q', (!ok), by omega, by go_num, HB3.out.drewN _⟩, by simp [intOf]; omega⟩
        · have hltI : ¬ (k : Int) < (fs.length : Int) := by omega
          go_wp2_with (go_at_call 10; refine (HA.out _).mono ?_; rintro e w9 ⟨rfl, hb9⟩)
          go_ret
          exact ⟨rfl, HBO.out.bel.trans (hb9.mono HBO.out.hB)⟩
theorem frameFeeds_walk (a0 : Option Addr) (cap0 : Nat) (l0 : List Fr) (w : World) (w0 : RCame w a0 cap0 l0) :
    Calls Try.prog 3 #[.slice a0 l0.length cap0] w fun e w' => e = .returned (.bool true) ∧ Below w.heap.size w w' := by
  by_cases h : 100 < l0.length
  · exact feeds_many a0 cap0 l0 w w0 h
  · exact feeds_in a0 cap0 l0 w w0 (by omega)
end Go.Proofs.Ythbomgjjdmogpaa
