/- Feed. -/
import Derived.Test.YthbomgjjdmogpaaFq
namespace Go.Proofs.Ythbomgjjdmogpaa
set_option linter.unusedSimpArgs false
set_option linter.unusedVariables false
open Go.RowKit
theorem LI.start {w : World} {B p : Nat} {v : Value} {q l : List Nat} {a : Option Addr} {cap : Nat} (h : FeIs w B p v q false) (hi : InE w (fp p v) a cap l) : LI w B p v (frames (q ++ l)) w q l a cap v (.slice none 0 0) [] :=
  ⟨hi, h, World.ownsRow_nil _ _ _ _, AllF.nil _ _, Keeps.refl _ _, fun y hy => .inl hy, by simp, fun f hf => by simp at hf⟩
theorem LI.few {w : World} {B p : Nat} {v0 : Value} {r : List (List Nat) × Bool × List Nat} {x : World} {q l : List Nat} {a : Option Addr} {cap : Nat} {v T : Value} {fs : List Fr} (h : LI w B p v0 r x q l a cap v T fs) : fs.length ≤ r.1.length := by
  rw [h.eq]; simp
theorem fc_size {hd : List Nat} {h : Nat} {v : Value} {sh sh2 : Bool} (hl : hd.length = 4) : (fcells hd h v sh).size = (zc sh2).size := by
  simp [fcells, cv_length, hl, zc]
theorem zc_one (sh : Bool) : (zc sh).all (·.oneCell') = true := by simp [zc, Value.oneCell']
theorem tb_feed {w : World} {B p : Nat} {v0 : Value} {r : List (List Nat) × Bool × List Nat} {x w1 w2 : World} {q l : List Nat} {a : Option Addr} {cap : Nat} {v T : Value} {fs : List Fr} (h : LI w B p v0 r x q l a cap v T fs)
    {hd1 : List Nat} {n m N : Nat} {a1 : Option Addr} {cap1 : Nat} (hn : n = min 4 q.length) (hm : m = min (4 - n) l.length) (h4 : 4 ≤ (q ++ l).length) (hN : be (q ++ l) = N) (hN2 : N ≤ 8192) (hb1 : FBox w1 p hd1 4 v false) (hk1 : Keeps [p] x w1) (hbel : Below w1.heap.size w1 w2) (hin : ∀ W E, InE W E a cap l → InE W E a1 cap1 (l.drop m)) (hBs : B ≤ w.heap.size) :
    Calls Try.prog 21 #[.pointer (some ⟨p, 0, none⟩), .slice a1 (l.length - m) cap1, .int .i64 (N : Int)] w2 fun e w3 => ∃ a3 cap3 g, e = .returned (.slice a3 ((q ++ l).drop (4 + N)).length cap3) ∧ (∀ W E, InE W E a cap l → InE W E a3 cap3 ((q ++ l).drop (4 + N))) ∧ FBox w3 p hd1 4 (.slice (some ⟨g, 0, none⟩) (((q ++ l).drop 4).take N).length N) false ∧ Own B w3 g N (((q ++ l).drop 4).take N) ∧ Keeps (fp p v) w2 w3 ∧ (v.ownBlock = some g ∨ w2.heap.size ≤ g) := by
  have hk2 : Keeps [p] x w2 := hk1.trans (Keeps.of_below hbel []) (by simp)
  have hb2 : FBox w2 p hd1 4 v false := hb1.keeps (Keeps.of_below hbel []) (by simp)
  have hkw : Keeps (fp p v0) w w2 := h.keep.trans hk2 (fun y hy => .inl (by simp at hy; subst hy; simp [fp]))
  have hr := (rest_iff q).1 h.fe.rest
  have hcl : (q.drop 4).length ≤ N := by
    rw [List.length_drop]
    rcases hr with e | ⟨e1, e2⟩
    · omega
    · by_cases hq : 4 ≤ q.length
      · rw [← be_app q l hq, hN] at e2; omega
      · omega
  have hbd : (v = .slice none 0 0 ∧ q.drop 4 = []) ∨ ∃ g, v = .slice (some ⟨g, 0, none⟩) (q.drop 4).length N ∧ Own B w2 g N (q.drop 4) := by
    rcases h.fe.body with ⟨e, hq⟩ | ⟨g, e, ho, hq⟩
    · exact .inl ⟨e, List.drop_eq_nil_of_le hq⟩
    · have hbq : be q = N := by rw [← be_app q l hq, hN]
      rw [hbq] at e ho
      refine .inr ⟨g, by rw [List.length_drop]; exact e, hk2.owns ho (fun y e2 => ?_)⟩
      have := h.fe.vne y (by rw [e]; exact e2)
      simpa using this
  have hie : InE w2 (fp p v) a1 cap1 (l.drop m) := hin _ _ (h.ine.to hkw h.vs)
  have hsz := hkw.size
  have := takeBody_any B p hd1 4 v false (q.drop 4) N a1 cap1 (l.drop m) w2 hb2 hbd (by omega) hcl hN2 hie
  obtain ⟨m2, hm2⟩ : ∃ m2, m2 = min (N - (q.drop 4).length) (l.drop m).length := ⟨_, rfl⟩
  rw [← hm2] at this
  rw [← List.length_drop]
  refine this.mono ?_
  rintro e w3 ⟨a3, cap3, g, rfl, hin3, hb3, ho3, hk3, hg3⟩
  have e1 := drop_all (q := q) (l := l) hn hm h4
  have e2 : q.drop 4 ++ (l.drop m).take m2 = ((q ++ l).drop 4).take N := by rw [e1]; exact body_all hcl hm2
  have e3 : (l.drop m).drop m2 = (q ++ l).drop (4 + N) := by
    rw [← List.drop_drop, e1, List.drop_append, List.drop_eq_nil_of_le hcl, List.nil_append]
    by_cases hle : (l.drop m).length ≤ N - (q.drop 4).length
    · rw [List.drop_eq_nil_of_le hle, List.drop_eq_nil_of_le (by omega)]
    · rw [show m2 = N - (q.drop 4).length by omega]
  rw [e2] at hb3 ho3
  rw [e3] at hin3 ⊢
  exact ⟨a3, cap3, g, rfl, fun W E hE => hin3 W E (hin W E hE), hb3, ho3, hk3, hg3⟩
theorem four {l : List Nat} (h : l.length = 4) : ∃ c0 c1 c2 c3, l = [c0, c1, c2, c3] := by
  match l, h with
  | [a, b, c, d], _ => exact ⟨a, b, c, d, rfl⟩
def lenOf : Value → Nat | .slice _ n _ => n | _ => 0
def LIx (w : World) (B p : Nat) (v0 : Value) (r : List (List Nat) × Bool × List Nat) (b T : Value) (x : World) : Prop :=
  ∃ q l a cap v fs, b = .slice a l.length cap ∧ LI w B p v0 r x q l a cap v T fs
set_option maxHeartbeats 1600000 in
set_option maxRecDepth 100000 in
theorem feed_open (B p : Nat) (v : Value) (q : List Nat) (a : Option Addr) (cap : Nat) (l : List Nat) (w : World) (h : FeIs w B p v q false) (hi : InE w (fp p v) a cap l) (hBs : B ≤ w.heap.size) (hl : l.length ≤ 1000000) :
    Calls Try.prog 12 #[.pointer (some ⟨p, 0, none⟩), .slice a l.length cap] w fun e w' => FDP w B p v (frames (q ++ l)) e w' := by
  have HS : Hid (LI w B p v (frames (q ++ l)) w q l a cap v (.slice none 0 0) []) := LI.start h hi
  have HBS : Hid (B ≤ w.heap.size) := hBs
  have HRC : Hid ((frames (q ++ l)).1.length ≤ 1000000) := by
    have h1 := frames_count (q ++ l)
    have h2 := rest_len h.rest
    rw [List.length_append] at h1
    show _ ≤ _
    omega
  obtain ⟨hd0, hb0, _⟩ := h.ex
  obtain ⟨z, z4, z5, z6, zf⟩ := hb0.cells
  clear h hi hBs z z4 z5 zf hb0
  obtain ⟨r, HR⟩ : ∃ r, Hid (frames (q ++ l) = r) := ⟨_, rfl⟩
  rw [HR.out] at HS HRC ⊢
  have HX0 : Hid (∃ q1 l1 a1 cap1 v1 fs1, (Value.slice a l.length cap) = .slice a1 l1.length cap1 ∧ LI w B p v r w q1 l1 a1 cap1 v1 (.slice none 0 0) fs1) := ⟨q, l, a, cap, v, [], rfl, HS.out⟩
  clear HR HS hl
  go_enter Try.func12, Try.ntmps12
  go_wp2_with fail
  go_loopw [1, 6] (fun b T x => LIx w B p v r b T x) (fun b _ _ => lenOf b)
  case atStart => exact HX0.out
  case round =>
    obtain ⟨q, l, a, cap, v', fs, rfl, hli⟩ := hrel
    have HLI : Hid (LI w B p v r wr q l a cap v' u6 fs) := hli
    obtain ⟨hd, hb, htk⟩ := hli.fe.ex
    obtain ⟨n, hn⟩ : ∃ n, n = min 4 q.length := ⟨_, rfl⟩
    rw [← hn] at hb htk
    obtain ⟨m, hm⟩ : ∃ m, m = min (4 - n) l.length := ⟨_, rfl⟩
    have HTH : Hid (Calls Try.prog 19 #[.pointer (some ⟨p, 0, none⟩), .slice a l.length cap] wr fun e w' => THP wr p hd n v' false a cap l m e w') := by
      have := takeHead_any p hd n v' false a cap l wr hb (by omega) (hli.ine.to hli.keep (fun x hx => .inl (by simp at hx; subst hx; simp [fp])))
      rw [← hm] at this
      exact this
    have HNM : Hid (n = min 4 q.length ∧ m = min (4 - n) l.length ∧ hd.take n = q.take 4) := ⟨hn, hm, htk⟩
    clear hli hb htk hn hm HX0 z6
    by_cases hk4 : n + m < 4
    · have hkI : ((n + m : Nat) : Int) < 4 := by omega
      go_wp2_with (go_at_call 19; refine Calls.mono HTH.out ?_; rintro e w1 ⟨a1, cap1, hd1, rfl, hin1, hb1, ht1, hkp1, hsz1⟩; have HF : Hid (FDP w B p v r (.returned (.tuple #[u6, .bool true])) w1) := wayA HLI.out HNM.out.1 HNM.out.2.1 HNM.out.2.2 ht1 hb1 hkp1 hk4; have c4 := hb1.cells.2.1; clear hin1 hb1 ht1 hkp1 hsz1)
      go_ret2
      exact HF.out
    · have hnm4 : n + m = 4 := by have h1 := HNM.out.1; have h2 := HNM.out.2.1; omega
      have h4 : 4 ≤ (q ++ l).length := by have h1 := HNM.out.1; have h2 := HNM.out.2.1; rw [List.length_append]; omega
      have H4 : Hid (4 ≤ (q ++ l).length) := h4
      have hnmI : ((n : Int) + (m : Int)) = 4 := by omega
      have HE1 : Hid (∀ (w1 : World) (hd1 : List Nat), FBox w1 p hd1 (n + m) v' false → hd1.take (n + m) = hd.take n ++ l.take m → FBox w1 p hd1 4 v' false ∧ hd1 = (q ++ l).take 4 ∧ be hd1 = be (q ++ l)) := by
        intro w1 hd1 hb1 ht1
        have e := (head_all HNM.out.1 HNM.out.2.1 HNM.out.2.2 ht1).2
        have e2 := take_eq_of hb1.len h4 e
        rw [hnm4] at hb1
        exact ⟨hb1, e2, by rw [e2, be_take]⟩
      obtain ⟨N, HN⟩ : ∃ N, Hid (be (q ++ l) = N) := ⟨_, rfl⟩
      rw [HN.out] at HE1
      clear hk4 h4
      by_cases hbad : 8192 < N
      · have hbI : (8192 : Int) < (N : Int) := by omega
        go_wp2_with (first
          | (go_at_call 19; refine Calls.mono HTH.out ?_; rintro e w1 ⟨a1, cap1, hd1, rfl, hin1, hb1, ht1, hkp1, hsz1⟩; obtain ⟨hb2, hhd, hbe⟩ := HE1.out w1 hd1 hb1 ht1; clear hb1 ht1 hin1 HTH; have HLN : Hid (Calls Try.prog 20 #[.agg (cv hd1).toArray] w1 fun e w' => e = .returned (.int .u32 ((N : Nat) : Int)) ∧ Below w1.heap.size w1 w') := (by have := length_any hd1 w1 hb2.len hb2.lt; rw [hbe] at this; exact this); have HB2 : Hid (FBox w1 p hd1 4 v' false) := hb2; obtain ⟨c0, c1, c2, c3, ehd⟩ : ∃ c0 c1 c2 c3, hd1 = [c0, c1, c2, c3] := four hb2.len; have k0 : w1.cell? ⟨p, 0, none⟩ = some (.int .u8 (c0 : Int)) := (by have := hb2.cells.1 0 (by omega); rw [ehd] at this; exact this); have k1 : w1.cell? ⟨p, 1, none⟩ = some (.int .u8 (c1 : Int)) := (by have := hb2.cells.1 1 (by omega); rw [ehd] at this; exact this); have k2 : w1.cell? ⟨p, 2, none⟩ = some (.int .u8 (c2 : Int)) := (by have := hb2.cells.1 2 (by omega); rw [ehd] at this; exact this); have k3 : w1.cell? ⟨p, 3, none⟩ = some (.int .u8 (c3 : Int)) := (by have := hb2.cells.1 3 (by omega); rw [ehd] at this; exact this); have k4 : w1.cell? ⟨p, 4, none⟩ = some (.int .i64 4) := hb2.cells.2.1; have HK1 : Hid (Keeps [p] wr w1) := hkp1; rw [ehd] at HLN; clear hb2 hhd hbe hkp1 hsz1)
          | (go_at_call 20; refine Calls.mono HLN.out ?_; rintro e w2 ⟨rfl, hbel⟩; have HP2 : Hid (w2.heap[p]? = some (.cells (fcells hd1 4 v' false) 37 (0, 0))) := (hbel.block p (Array.getElem?_eq_some_iff.1 HB2.out.box).1).trans HB2.out.box; have HK2 : Hid (Keeps [p] wr w2) := HK1.out.trans (Keeps.of_below hbel []) (by simp); clear hbel k0 k1 k2 k3 k4)
          | (have _t := HP2; refine wpList_store_row rfl 37 _ _ rfl p (zc true) rfl rfl 37 (fcells hd1 4 v' false) HP2.out Try.info37 (fc_size HB2.out.len) (zc_one true) ?_; clear _t; have HF : Hid (FDP w B p v r (.returned (.tuple #[u6, .bool false])) (w2.setRow p (zc true))) := wayB HLI.out HK2.out H4.out (by rw [HN.out]; exact hbad) (setRow_heap _ _ _ _ _ _ HP2.out) ((Keeps.refl _ _).setRow p _ (.inl (by simp))); clear HP2))
        go_ret2
        exact HF.out
      · have hN : N ≤ 8192 := by omega
        have hNI : ¬ (8192 : Int) < (N : Int) := by omega
        have hNd : decide ((8192 : Int) < (N : Int)) = false := decide_eq_false hNI
        obtain ⟨BD, HBD⟩ : ∃ BD, Hid (((q ++ l).drop 4).take N = BD) := ⟨_, rfl⟩
        obtain ⟨BL, HBL⟩ : ∃ BL, Hid (BD.length = BL) := ⟨_, rfl⟩
        obtain ⟨L3, HL3⟩ : ∃ L3, Hid (((q ++ l).drop (4 + N)).length = L3) := ⟨_, rfl⟩
        have HTB0 : Hid (∀ (w1 w2 : World) (hd1 : List Nat) (a1 : Option Addr) (cap1 : Nat), FBox w1 p hd1 4 v' false → Keeps [p] wr w1 → Below w1.heap.size w1 w2 → (∀ W E, InE W E a cap l → InE W E a1 cap1 (l.drop m)) →
            Calls Try.prog 21 #[.pointer (some ⟨p, 0, none⟩), .slice a1 (l.length - m) cap1, .int .i64 (N : Int)] w2 fun e w3 => ∃ a3 cap3 g, e = .returned (.slice a3 L3 cap3) ∧ (∀ W E, InE W E a cap l → InE W E a3 cap3 ((q ++ l).drop (4 + N))) ∧ FBox w3 p hd1 4 (.slice (some ⟨g, 0, none⟩) BL N) false ∧ Own B w3 g N BD ∧ Keeps (fp p v') w2 w3 ∧ (v'.ownBlock = some g ∨ w2.heap.size ≤ g)) := by
          intro w1 w2 hd1 a1 cap1 hb1 hk1 hbel hin
          have := tb_feed HLI.out HNM.out.1 HNM.out.2.1 H4.out HN.out hN hb1 hk1 hbel hin HBS.out
          rw [HBD.out, HBL.out, HL3.out] at this
          exact this
        by_cases hpart : (q ++ l).length < 4 + N
        · have hBLN : BL < N := by rw [← HBL.out, ← HBD.out, List.length_take, List.length_drop]; have := H4.out; omega
          have hBI : (BL : Int) < (N : Int) := by omega
          have HWC : Hid (∀ (w2 w3 : World) (hd1 : List Nat) (g : Nat), Keeps [p] wr w2 → hd1 = (q ++ l).take 4 → FBox w3 p hd1 4 (.slice (some ⟨g, 0, none⟩) BL N) false → Own B w3 g N BD → Keeps (fp p v') w2 w3 → (v'.ownBlock = some g ∨ w2.heap.size ≤ g) → FDP w B p v r (.returned (.tuple #[u6, .bool true])) w3) := by
            intro w2 w3 hd1 g h1 h2 h3 h4 h5 h6
            have e := HN.out
            subst e
            exact wayC HLI.out h1 H4.out hN hpart h2 (by rw [HBD.out, HBL.out]; exact h3) (by rw [HBD.out]; exact h4) h5 h6
          clear hpart
          go_wp2_with (first
            | (go_at_call 19; refine Calls.mono HTH.out ?_; rintro e w1 ⟨a1, cap1, hd1, rfl, hin1, hb1, ht1, hkp1, hsz1⟩; obtain ⟨hb2, hhd, hbe⟩ := HE1.out w1 hd1 hb1 ht1; have HIN : Hid (∀ W E, InE W E a cap l → InE W E a1 cap1 (l.drop m)) := hin1; clear hb1 ht1 hin1 HTH; have HLN : Hid (Calls Try.prog 20 #[.agg (cv hd1).toArray] w1 fun e w' => e = .returned (.int .u32 ((N : Nat) : Int)) ∧ Below w1.heap.size w1 w') := (by have := length_any hd1 w1 hb2.len hb2.lt; rw [hbe] at this; exact this); have HB2 : Hid (FBox w1 p hd1 4 v' false) := hb2; have HHD : Hid (hd1 = (q ++ l).take 4) := hhd; obtain ⟨c0, c1, c2, c3, ehd⟩ : ∃ c0 c1 c2 c3, hd1 = [c0, c1, c2, c3] := four hb2.len; have k0 : w1.cell? ⟨p, 0, none⟩ = some (.int .u8 (c0 : Int)) := (by have := hb2.cells.1 0 (by omega); rw [ehd] at this; exact this); have k1 : w1.cell? ⟨p, 1, none⟩ = some (.int .u8 (c1 : Int)) := (by have := hb2.cells.1 1 (by omega); rw [ehd] at this; exact this); have k2 : w1.cell? ⟨p, 2, none⟩ = some (.int .u8 (c2 : Int)) := (by have := hb2.cells.1 2 (by omega); rw [ehd] at this; exact this); have k3 : w1.cell? ⟨p, 3, none⟩ = some (.int .u8 (c3 : Int)) := (by have := hb2.cells.1 3 (by omega); rw [ehd] at this; exact this); have k4 : w1.cell? ⟨p, 4, none⟩ = some (.int .i64 4) := hb2.cells.2.1; have HK1 : Hid (Keeps [p] wr w1) := hkp1; rw [ehd] at HLN; clear hb2 hhd hbe hkp1 hsz1)
            | (go_at_call 20; refine Calls.mono HLN.out ?_; rintro e w2 ⟨rfl, hbel⟩; have HK2 : Hid (Keeps [p] wr w2) := HK1.out.trans (Keeps.of_below hbel []) (by simp); have HTB := HTB0.out w1 w2 hd1 a1 cap1 HB2.out HK1.out hbel HIN.out; clear hbel k0 k1 k2 k3 k4)
            | (go_at_call 21; refine Calls.mono HTB ?_; rintro e w3 ⟨a3, cap3, g, rfl, hin3, hb3, ho3, hk3, hg3⟩; have k5 : w3.cell? ⟨p, 5, none⟩ = some (.slice (some ⟨g, 0, none⟩) BL N) := hb3.cells.2.2.1; have HF : Hid (FDP w B p v r (.returned (.tuple #[u6, .bool true])) w3) := HWC.out w2 w3 hd1 g HK2.out HHD.out hb3 ho3 hk3 hg3; clear hin3 hb3 ho3 hk3 hg3 HTB))
          go_ret2
          exact HF.out
        · have hBLe : BL = N := by rw [← HBL.out, ← HBD.out, List.length_take, List.length_drop]; omega
          have HWD : Hid (∀ (w2 w3 w4 : World) (g : Nat) (o : Obj) (a3 : Option Addr) (cap3 : Nat) (T' : Value), Keeps [p] wr w2 → p ≠ g → Own B w3 g N BD → Keeps (fp p v') w2 w3 → (v'.ownBlock = some g ∨ w2.heap.size ≤ g) → (w3.alloc o).grownBy w4 u6.ownBlock → w4.ownsRow w.heap.size 23 1 T' (fs ++ [(⟨some ⟨g, 0, none⟩, N, BD⟩ : Fr)]).length ((fs ++ [(⟨some ⟨g, 0, none⟩, N, BD⟩ : Fr)]).map Fr.v) → (∃ cs, w4.heap[p]? = some (.cells cs 37 (0, 0)) ∧ cs.size = (zc false).size) → (∀ W E, InE W E a cap l → InE W E a3 cap3 ((q ++ l).drop (4 + N))) → LIx w B p v r (.slice a3 L3 cap3) T' (w4.setRow p (zc false))) := by
            intro w2 w3 w4 g o a3 cap3 T' h1 h2 h3 h4 h5 h6 h7 h8 h9
            obtain ⟨cs, h8, _⟩ := h8
            have e := HN.out
            subst e
            have e2 := HBD.out
            subst e2
            exact ⟨[], _, a3, cap3, .slice none 0 0, _, by rw [HL3.out], wayD HLI.out h1 H4.out hN (by omega) h2 h3 h4 h5 h6 h7 (setRow_heap _ _ _ _ _ _ h8) ((Keeps.refl _ _).setRow p _ (.inl (by simp))) ⟨cs, h8⟩ (h9 _ _ HLI.out.ine) rfl⟩
          have hL3 : L3 < l.length := by
            rw [← HL3.out, List.length_drop, List.length_append]
            rcases (rest_iff q).1 HLI.out.fe.rest with e | ⟨e1, e2⟩
            · rw [List.length_append] at hpart; omega
            · by_cases hq : 4 ≤ q.length
              · rw [← be_app q l hq, HN.out] at e2; rw [List.length_append] at hpart; omega
              · rw [List.length_append] at hpart; omega
          have HAP : Hid (∀ (w2 w3 : World) (hd1 : List Nat) (g : Nat), Keeps [p] wr w2 → Keeps (fp p v') w2 w3 → FBox w3 p hd1 4 (.slice (some ⟨g, 0, none⟩) N N) false → Own B w3 g N BD → (w3.alloc (.cells #[.slice (some ⟨g, 0, none⟩) N N] 23)).ownsRow w.heap.size 23 1 u6 fs.length (fs.map Fr.v) ∧ w.heap.size ≤ (w3.alloc (.cells #[.slice (some ⟨g, 0, none⟩) N N] 23)).heap.size ∧ FCells (w3.alloc (.cells #[.slice (some ⟨g, 0, none⟩) N N] 23)) (some ⟨w3.heap.size, 0, none⟩) [(⟨some ⟨g, 0, none⟩, N, BD⟩ : Fr)] ∧ p ≠ g ∧ ∀ w4, (w3.alloc (.cells #[.slice (some ⟨g, 0, none⟩) N N] 23)).grownBy w4 u6.ownBlock → w4.heap[p]? = some (.cells (fcells hd1 4 (.slice (some ⟨g, 0, none⟩) N N) false) 37 (0, 0))) := by
            intro w2 w3 hd1 g h1 h2 h3 h4
            have hk3 : Keeps (fp p v') wr w3 := (h1.mono (fun y hy => .inl (by simp at hy; subst hy; simp [fp]))).trans h2 (fun y hy => .inl hy)
            have ho : w3.ownsRow w.heap.size 23 1 u6 fs.length (fs.map Fr.v) := hk3.owns HLI.out.owns (HLI.out.fe.owns_off HLI.out.owns)
            have hs1 := HLI.out.keep.size
            have hs2 := hk3.size
            refine ⟨ho.alloc _, by simp; omega, ?_, blk_ne h3 h4, fun w4 hg => ?_⟩
            · have hf : (⟨some ⟨g, 0, none⟩, N, BD⟩ : Fr).v = .slice (some ⟨g, 0, none⟩) N N := by unfold Fr.v; simp only; rw [HBL.out, hBLe]
              have := fcells_new w3 ⟨some ⟨g, 0, none⟩, N, BD⟩
              rw [hf] at this
              exact this
            · have hp : p < w3.heap.size := (Array.getElem?_eq_some_iff.1 h3.box).1
              rw [hg.block p (by simp; omega) (fun e => row_box ho h3.box (by decide) p e.symm rfl), heap_alloc_old w3 _ hp]
              exact h3.box
          have HFL : Hid (fs.length + 1 ≤ 2000000) := by have h1 := HLI.out.few; have h2 := HRC.out; show _ ≤ _; omega
          clear hpart
          rw [hBLe] at HTB0
          clear hBLe HBL
          go_wp2_with (first
            | (go_at_call 19; refine Calls.mono HTH.out ?_; rintro e w1 ⟨a1, cap1, hd1, rfl, hin1, hb1, ht1, hkp1, hsz1⟩; obtain ⟨hb2, hhd, hbe⟩ := HE1.out w1 hd1 hb1 ht1; have HIN : Hid (∀ W E, InE W E a cap l → InE W E a1 cap1 (l.drop m)) := hin1; clear hb1 ht1 hin1 HTH; have HLN : Hid (Calls Try.prog 20 #[.agg (cv hd1).toArray] w1 fun e w' => e = .returned (.int .u32 ((N : Nat) : Int)) ∧ Below w1.heap.size w1 w') := (by have := length_any hd1 w1 hb2.len hb2.lt; rw [hbe] at this; exact this); have HB2 : Hid (FBox w1 p hd1 4 v' false) := hb2; have HHD : Hid (hd1 = (q ++ l).take 4) := hhd; obtain ⟨c0, c1, c2, c3, ehd⟩ : ∃ c0 c1 c2 c3, hd1 = [c0, c1, c2, c3] := four hb2.len; have k0 : w1.cell? ⟨p, 0, none⟩ = some (.int .u8 (c0 : Int)) := (by have := hb2.cells.1 0 (by omega); rw [ehd] at this; exact this); have k1 : w1.cell? ⟨p, 1, none⟩ = some (.int .u8 (c1 : Int)) := (by have := hb2.cells.1 1 (by omega); rw [ehd] at this; exact this); have k2 : w1.cell? ⟨p, 2, none⟩ = some (.int .u8 (c2 : Int)) := (by have := hb2.cells.1 2 (by omega); rw [ehd] at this; exact this); have k3 : w1.cell? ⟨p, 3, none⟩ = some (.int .u8 (c3 : Int)) := (by have := hb2.cells.1 3 (by omega); rw [ehd] at this; exact this); have k4 : w1.cell? ⟨p, 4, none⟩ = some (.int .i64 4) := hb2.cells.2.1; have HK1 : Hid (Keeps [p] wr w1) := hkp1; rw [ehd] at HLN; clear hb2 hhd hbe hkp1 hsz1)
            | (go_at_call 20; refine Calls.mono HLN.out ?_; rintro e w2 ⟨rfl, hbel⟩; have HK2 : Hid (Keeps [p] wr w2) := HK1.out.trans (Keeps.of_below hbel []) (by simp); have HTB := HTB0.out w1 w2 hd1 a1 cap1 HB2.out HK1.out hbel HIN.out; clear hbel k0 k1 k2 k3 k4)
            | (go_at_call 21; refine Calls.mono HTB ?_; rintro e w3 ⟨a3, cap3, g, rfl, hin3, hb3, ho3, hk3, hg3⟩; have k5 : w3.cell? ⟨p, 5, none⟩ = some (.slice (some ⟨g, 0, none⟩) N N) := hb3.cells.2.2.1; obtain ⟨q1, q2, q3, q4, q5⟩ := HAP.out w2 w3 hd1 g HK2.out hk3 hb3 ho3; have HQ1 : Hid ((w3.alloc (.cells #[.slice (some ⟨g, 0, none⟩) N N] 23)).ownsRow w.heap.size 23 1 u6 fs.length (fs.map Fr.v)) := q1; have HQ2 : Hid (w.heap.size ≤ (w3.alloc (.cells #[.slice (some ⟨g, 0, none⟩) N N] 23)).heap.size) := q2; have HQ3 : Hid (FCells (w3.alloc (.cells #[.slice (some ⟨g, 0, none⟩) N N] 23)) (some ⟨w3.heap.size, 0, none⟩) [(⟨some ⟨g, 0, none⟩, N, BD⟩ : Fr)]) := q3; have HQ5 : Hid (∀ w4, (w3.alloc (.cells #[.slice (some ⟨g, 0, none⟩) N N] 23)).grownBy w4 u6.ownBlock → w4.heap[p]? = some (.cells (fcells hd1 4 (.slice (some ⟨g, 0, none⟩) N N) false) 37 (0, 0))) := q5; have HE3 : Hid (p ≠ g ∧ Own B w3 g N BD ∧ Keeps (fp p v') w2 w3 ∧ (v'.ownBlock = some g ∨ w2.heap.size ≤ g) ∧ ∀ W E, InE W E a cap l → InE W E a3 cap3 ((q ++ l).drop (4 + N))) := ⟨q4, ho3, hk3, hg3, hin3⟩; have HL4 : Hid (hd1.length = 4) := hb3.len; clear hin3 hb3 ho3 hk3 hg3 HTB q1 q2 q3 q4 q5)
            | (at_builtin; have _t := HQ3; refine wpList_append_frs (by rfl) _ _ rfl w.heap.size _ fs rfl HQ1.out HQ2.out _ 1 [(⟨some ⟨g, 0, none⟩, N, BD⟩ : Fr)] rfl HQ3.out (fun e => by cases e) HFL.out ?_; intro T' w4 hown4 hgr4 hwh4; have HP4 : Hid (w4.heap[p]? = some (.cells (fcells hd1 4 (.slice (some ⟨g, 0, none⟩) N N) false) 37 (0, 0))) := HQ5.out w4 hgr4; have HD : Hid (LIx w B p v r (.slice a3 L3 cap3) T' (w4.setRow p (zc false))) := HWD.out w2 w3 w4 g _ a3 cap3 T' HK2.out HE3.out.1 HE3.out.2.1 HE3.out.2.2.1 HE3.out.2.2.2.1 hgr4 hown4 ⟨_, HP4.out, fc_size HL4.out⟩ HE3.out.2.2.2.2; clear hown4 hgr4 hwh4 HQ1 HQ3 HQ5 _t)
            | (have _t := HP4; refine wpList_store_row rfl 37 _ _ rfl p (zc false) rfl rfl 37 (fcells hd1 4 (.slice (some ⟨g, 0, none⟩) N N) false) HP4.out Try.info37 (fc_size HL4.out) (zc_one false) ?_; simp only [Act.put]; clear _t HP4))
          exact ⟨HD.out, by show L3 < l.length; exact hL3⟩
/-- Feed, whatever the Feeder is. -/
theorem feed_any (B p : Nat) (v : Value) (q : List Nat) (sh : Bool) (a : Option Addr) (cap : Nat) (l : List Nat) (w : World) (h : FeIs w B p v q sh) (hi : InE w (fp p v) a cap l) (hBs : B ≤ w.heap.size) (hl : l.length ≤ 1000000) :
    Calls Try.prog 12 #[.pointer (some ⟨p, 0, none⟩), .slice a l.length cap] w fun e w' => FDP w B p v (feedS sh q l) e w' := by
  cases sh
  · exact feed_open B p v q a cap l w h hi hBs hl
  · refine (feed_shut B p v q a l.length cap w h).mono ?_
    rintro e w' ⟨rfl, rfl⟩
    have hq := h.off rfl
    refine ⟨.slice none 0 0, [], v, rfl, World.ownsRow_nil _ _ _ _, rfl, AllF.nil _ _, ?_, Keeps.refl _ _, fun x hx => .inl hx, fun f hf => by simp at hf⟩
    show FeIs w' B p v [] true
    rw [← hq]
    exact h
end Go.Proofs.Ythbomgjjdmogpaa
