/- settle's steps: each home is written, all is flushed, the table is emptied. -/
import Derived.Test.YtohncckmennfbaaDoorJw
import Derived.Test.YtohncckmennfbaaDoorJi
namespace Go.Proofs.YtohncckmennfbaaDoor
set_option linter.unusedSimpArgs false
set_option linter.unusedVariables false
open Go.RowKit Go.MapKept Go.Proofs
theorem enters57 : Enters Tryd.prog 74 := enters_of Tryd.func74 (by kernel_rfl) rfl
theorem enters58 : Enters Tryd.prog 75 := enters_of Tryd.func75 (by kernel_rfl) rfl
/-- A home's last commit is written home. -/
theorem st1_any {w : World} {j dp : Nat} {F : List Nat} {lb : Nat} {d : Dv} {T : List (List Nat)} {off : Bool} {jb kb k : Nat} (hJ : Jour w j dp (j :: lb :: F) d T off) (hd : Dev w dp F d) (cj : w.cell? ⟨jb, 0, none⟩ = some (.pointer (some ⟨j, 0, none⟩))) (ck : w.cell? ⟨kb, 0, none⟩ = some (.int .i64 (k : Int)))
    (hk : 245 ≤ k ∧ k < d.n) (hf : find T k < d.n) (ho : d.ops < 1000000) :
    Calls Tryd.prog 74 #[.pointer (some ⟨jb, 0, none⟩), .pointer (some ⟨kb, 0, none⟩)] w fun e w' => e = .returned (.int .i64 (d.wcode (k : Int) 512)) ∧ ∃ F', Dev w' dp F' (d.wrote (k : Int) (d.cur (find T k))) ∧ Keeps F w w' ∧ Grows w F F' := by
  have HR : Hid _ := jread_ok hJ k hk hf
  have hc := hd.ok.cur (find T k)
  have HW : Hid (∀ (w' : World) (g : Nat), Below w.heap.size w w' → Full w' g 83 (d.cur (find T k)) → Calls Tryd.prog 70 #[.pointer (some ⟨dp, 0, none⟩), .int .i64 (k : Int), .slice (some ⟨g, 0, none⟩) 512 512] w' fun e w'' => e = .returned (.int .i64 (d.wcode (k : Int) 512)) ∧ ∃ F', Dev w'' dp F' (d.wrote (k : Int) (d.cur (find T k))) ∧ Keeps F w w'' ∧ Grows w F F') := fun w' g hb hf => by
    have := writeD (hd.below hb) (k : Int) g (d.cur (find T k)) (ty := 83) (by decide) hf hc.2 (by rw [hc.1]; omega) ho
    rw [hc.1] at this
    refine this.mono ?_
    rintro e w'' ⟨rfl, F', h1, h2, h3⟩
    exact ⟨rfl, F', h1, (Keeps.of_below hb F).trans h2 (fun x hx => .inl hx), fun x hx => (h3 x hx).imp id (fun q => Nat.le_trans hb.size q)⟩
  have HB : Hid (∀ w', Below w.heap.size w w' → w'.cell? ⟨jb, 0, none⟩ = some (.pointer (some ⟨j, 0, none⟩)) ∧ w'.cell? ⟨kb, 0, none⟩ = some (.int .i64 (k : Int)) ∧ w'.cell? ⟨j, 0, none⟩ = some (.pointer (some ⟨dp, 0, none⟩))) := fun w' hb => by
    obtain ⟨F2, lb2, e, _, hj, _⟩ := hJ
    refine ⟨by rw [hb.cell (World.block_lt_of_cell? _ _ cj)]; exact cj, by rw [hb.cell (World.block_lt_of_cell? _ _ ck)]; exact ck, (hj.below hb).c.1⟩
  clear hJ hc hf hk
  generalize d.cur (find T k) = C at *
  go_enter Tryd.func74, Tryd.ntmps74
  go_wp2_with (first
    | (go_at_call 34; refine Calls.mono HR.out ?_; rintro e w2 ⟨g, rfl, hful, hge, hb2⟩; obtain ⟨q1, q2, q3⟩ := HB.out w2 hb2))
  go_region_with (first
    | (go_at_call 70; refine (HW.out _ g (by exact ⟨hb2.os, hb2.tape, hb2.output, hb2.size, hb2.block⟩) (by exact hful)).mono ?_; rintro e w3 ⟨rfl, hpost⟩))
  all_goals go_wp2
  all_goals go_ret
  all_goals exact ⟨rfl, hpost⟩
/-- The table is emptied. -/
theorem st2_any {B : Nat} {E : List Nat} {w1 w : World} {j dp : Nat} {d : Dv} {T : List (List Nat)} {s : Nat → List Nat} {jb : Nat} (hF : Fr B E w1 w) (hJ : JP B E w j dp d T false) (cj : w.cell? ⟨jb, 0, none⟩ = some (.pointer (some ⟨j, 0, none⟩))) (hR : Rest d T s) (hh : ∀ k, 245 ≤ k → k < d.n → d.base k = s k) (ho : d.ops + 2 ≤ 1000000) :
    Calls Tryd.prog 75 #[.pointer (some ⟨jb, 0, none⟩)] w
      (Ans (fun w' => Fr B E w1 w' ∧ ∃ d', JP B E w' j dp d' [] false ∧ Rest d' [] s ∧ Next d d' 2) (fun w' => Fr B E w1 w' ∧ ∃ d' T'', JP B E w' j dp d' T'' false ∧ Safe d' s s ∧ Next d d' 2 ∧ d'.cut = true)) := by
  have hb : Below w.heap.size w (w.alloc (.map #[] 0)) := (Below.refl _ _).alloc (Nat.le_refl _) _
  have hB : B ≤ w.heap.size := Nat.le_trans hF.big hF.size
  have hM : MapIs (w.alloc (.map #[] 0)) w.heap.size mkP (lv []) 0 := by
    have : lv [] = fun _ => none := by funext p; simp [lv]
    rw [this]
    exact MapIs.made w
  have hT := turn_any (T' := []) (t := s) (hF.below hb) ((hJ.ext (E' := w.heap.size :: E) (fun x hx => by rcases List.mem_cons.1 hx with rfl | q; exact .inr (Nat.le_refl _); exact .inl q)).below hb) hM ⟨hB, fun q => by have := hF.ltw _ q; omega⟩ hR ⟨GoodT.nil _, hh⟩ ho
  have HT : Hid (Calls Tryd.prog 76 #[.pointer (some ⟨j, 0, none⟩), .map (some w.heap.size), .int .i64 0] (w.alloc (.map #[] 0))
      (Ans (fun w' => Fr B E w1 w' ∧ ∃ d', JP B E w' j dp d' [] false ∧ Rest d' [] s ∧ Next d d' 2) (fun w' => Fr B E w1 w' ∧ ∃ d' T'', JP B E w' j dp d' T'' false ∧ Safe d' s s ∧ Next d d' 2 ∧ d'.cut = true))) := hT
  have hmm := @run_makeMap Tryd.prog
  clear hT hM hJ hR hh hb
  go_enter Tryd.func75, Tryd.ntmps75
  go_wp2_with (go_at_call 76; refine Calls.mono HT.out ?_; rintro e w2 ⟨c, rfl, hc⟩)
  go_ret
  exact ⟨c, rfl, hc⟩
def BadJ (B : Nat) (E : List Nat) (w2 : World) (j dp : Nat) (d : Dv) (M : Nat) (s t : Nat → List Nat) : World → Prop := fun w => Fr B E w2 w ∧ ∃ d' T', JP B E w j dp d' T' false ∧ Safe d' s t ∧ Next d d' M ∧ d'.cut = true
/-- While homes are written: these are. -/
def StA (B : Nat) (E : List Nat) (j dp : Nat) (d0 : Dv) (T : List (List Nat)) (s : Nat → List Nat) (done : List Nat) (m : Nat) : World → Prop := fun w => ∃ d, JP B E w j dp d T false ∧ Ph d T s ∧ (∀ k ∈ done, d.cur k = s k) ∧ Next d0 d m
def f57 (jb kb : Nat) : Value := .func (.func 74) #[] #[.pointer (some ⟨jb, 0, none⟩), .pointer (some ⟨kb, 0, none⟩)]
theorem st_chain {B : Nat} {E : List Nat} {w2 : World} {j dp jb : Nat} {d0 : Dv} {T : List (List Nat)} {s t : Nat → List Nat} {M : Nat} (hjb : jb ∈ E) (cj : w2.cell? ⟨jb, 0, none⟩ = some (.pointer (some ⟨j, 0, none⟩))) (hM : d0.ops + M ≤ 1000000) :
    ∀ (l : List (Nat × Nat)) (done : List Nat) (m : Nat), (∀ p ∈ l, p.1 ∈ E ∧ w2.cell? ⟨p.1, 0, none⟩ = some (.int .i64 (p.2 : Int)) ∧ ∃ q, p.2 ∈ T.getD q []) → m + l.length < M →
      Chain (Fr B E w2) (BadJ B E w2 j dp d0 M s t) (l.map fun p => f57 jb p.1) (StA B E j dp d0 T s done m) (StA B E j dp d0 T s (done ++ l.map Prod.snd) (m + l.length))
  | [], done, m, _, _ => .nil fun w _ h => by simpa using h
  | p :: l, done, m, hl, hm => by
    obtain ⟨hp, cp, q, hq⟩ := hl p (by simp)
    have ih := st_chain (B := B) (dp := dp) (d0 := d0) (s := s) (t := t) hjb cj hM l (done ++ [p.2]) (m + 1) (fun x hx => hl x (by simp [hx])) (by simp at hm; omega)
    rw [show (done ++ [p.2]) ++ l.map Prod.snd = done ++ (p :: l).map Prod.snd by simp, show m + 1 + l.length = m + (p :: l).length by simp; omega] at ih
    refine .cons (Q := StA B E j dp d0 T s (done ++ [p.2]) (m + 1)) ⟨74, _, _, rfl, enters57, fun w hF hA => ?_⟩ ih
    obtain ⟨d, ⟨FP, hJo, hFP⟩, hPh, hdone, hN⟩ := hA
    obtain ⟨F, lb, rfl, hd, hj, h1, h2⟩ := id hJo
    have hhome := hPh.good.home q p.2 hq
    have hfl := find_lt hPh.good hPh.n246 hhome.1 hhome.2
    have hlt : d.ops < 1000000 := by have := hN.ops; simp at hm; omega
    refine (st1_any hJo hd ((hF.box hjb).trans cj) ((hF.box hp).trans cp) hhome hfl.1 hlt).mono ?_
    rintro e w' ⟨rfl, F', hd', hk, hg⟩
    obtain ⟨g1, g2⟩ := JP.step hF hj h1 h2 hFP hd' hk hg
    obtain ⟨hv1, hv2⟩ := hPh.view p.2 hhome.1 hhome.2
    cases hon : d.on with
    | true =>
      rw [wrote_on hon hhome.2 (hd.ok.cur _).1] at g2
      have hcur : d.cur (find T p.2) = s p.2 := (cur_none hv2).trans hv1
      rw [hcur] at g2
      refine ⟨_, rfl, .inl ⟨wcode_on hon hhome.2, g1, _, g2, ?_, fun k hk => ?_, (hN.trans (Next.add d _ _) (Nat.le_refl _))⟩⟩
      · refine ((Like.tick d).ph hPh).add (by omega) (fun x hx1 hx2 => ?_)
        rcases find_cases hPh.good x with ⟨e, hno⟩ | ⟨q', _, hk', e⟩
        · rw [e]; intro c; rw [c] at hno; exact hno q hq
        · have := dat_lt hPh.good hk'; rw [e]; omega
      · rw [cur_add]
        rcases List.mem_append.1 hk with a | a
        · split
          · rename_i c; rw [c]
          · exact hdone k a
        · rw [if_pos (by simpa using a)]; rw [show k = p.2 by simpa using a]
    | false =>
      rw [wrote_off hon] at g2
      exact ⟨_, rfl, .inr ⟨wcode_off hon, g1, _, T, g2, (Like.tick d).safe (hPh.safe t), (hN.trans (Next.tick d) (Nat.le_refl _)).mono (by simp at hm; omega), show d.cut = true from off_cut hon⟩⟩
/-- The whole of settle. -/
theorem settle_chain {B : Nat} {E : List Nat} {w2 : World} {j dp jb : Nat} {d0 : Dv} {T : List (List Nat)} {s t : Nat → List Nat} {M m : Nat} (hjb : jb ∈ E) (cj : w2.cell? ⟨jb, 0, none⟩ = some (.pointer (some ⟨j, 0, none⟩))) (hM : d0.ops + M ≤ 1000000)
    (l : List (Nat × Nat)) (hl : ∀ p ∈ l, p.1 ∈ E ∧ w2.cell? ⟨p.1, 0, none⟩ = some (.int .i64 (p.2 : Int)) ∧ ∃ q, p.2 ∈ T.getD q []) (hall : ∀ k, (∃ q, k ∈ T.getD q []) → k ∈ l.map Prod.snd) (hm : m + l.length + 3 ≤ M) :
    Chain (Fr B E w2) (BadJ B E w2 j dp d0 M s t) ((l.map fun p => f57 jb p.1) ++ [.func (.func 39) #[.pointer (some ⟨dp, 0, none⟩)] #[], .func (.func 75) #[] #[.pointer (some ⟨jb, 0, none⟩)]])
      (fun w => ∃ d, JP B E w j dp d T false ∧ Rest d T s ∧ Next d0 d m) (fun w => ∃ d, JP B E w j dp d [] false ∧ Rest d [] s ∧ Next d0 d (m + l.length + 3)) := by
  have c1 := st_chain (B := B) (dp := dp) (d0 := d0) (s := s) (t := t) (T := T) hjb cj hM l [] m hl (by omega)
  have c0 : Chain (Fr B E w2) (BadJ B E w2 j dp d0 M s t) [] (fun w => ∃ d, JP B E w j dp d T false ∧ Rest d T s ∧ Next d0 d m) (StA B E j dp d0 T s [] m) := .nil fun w _ ⟨d, h1, h2, h3⟩ => ⟨d, h1, h2.ph, by simp, h3⟩
  refine (c0.append c1).append ?_
  rw [List.nil_append]
  refine .cons (Q := fun w => ∃ d, JP B E w j dp d T false ∧ Rest d T s ∧ (∀ k, 245 ≤ k → k < d.n → d.base k = s k) ∧ Next d0 d (m + l.length + 1)) ⟨39, _, _, rfl, enters34, fun w hF hA => ?_⟩
    (.cons (Q := fun w => ∃ d, JP B E w j dp d [] false ∧ Rest d [] s ∧ Next d0 d (m + l.length + 3)) ⟨75, _, _, rfl, enters58, fun w hF hA => ?_⟩ (.nil fun _ _ h => h))
  · obtain ⟨d, ⟨FP, hJo, hFP⟩, hPh, hdone, hN⟩ := hA
    obtain ⟨F, lb, rfl, hd, hj, h1, h2⟩ := id hJo
    refine (flushD hd (by have := hN.ops; omega)).mono ?_
    rintro e w' ⟨rfl, F', hd', hk, hg⟩
    obtain ⟨g1, g2⟩ := JP.step hF hj h1 h2 hFP hd' hk hg
    cases hon : d.on with
    | true =>
      rw [flushed_on hon] at g2
      refine ⟨_, rfl, .inl ⟨by simp, g1, _, g2, ((Like.tick d).ph hPh).flush, fun k h1 h2 => ?_, hN.trans (Next.flush d) (Nat.le_refl _)⟩⟩
      show d.cur k = s k
      by_cases hq : ∃ q, k ∈ T.getD q []
      · exact hdone k (hall k hq)
      · obtain ⟨a, b⟩ := hPh.view k h1 h2
        rcases find_cases hPh.good k with ⟨e, _⟩ | ⟨q, _, hk', _⟩
        · rw [e] at a b
          rw [cur_none b]; exact a
        · exact absurd ⟨q, hk'⟩ hq
    | false =>
      rw [flushed_off hon] at g2
      exact ⟨_, rfl, .inr ⟨by simp, g1, _, T, g2, (Like.tick d).safe (hPh.safe t), (hN.trans (Next.tick d) (Nat.le_refl _)).mono (by omega), show d.cut = true from off_cut hon⟩⟩
  · obtain ⟨d, hJ, hR, hh, hN⟩ := hA
    refine (st2_any hF hJ ((hF.box hjb).trans cj) hR hh (by have := hN.ops; omega)).mono ?_
    intro e w' h
    refine h.mono (fun ⟨a, d', b, c, e⟩ => ⟨a, d', b, c, hN.trans e (by omega)⟩) (fun ⟨a, d', T'', b, c, e, f⟩ => ⟨a, d', T'', b, ?_, (hN.trans e (Nat.le_refl _)).mono (by omega), f⟩)
    intro F hF
    rcases c F hF with q | q <;> exact .inl q
end Go.Proofs.YtohncckmennfbaaDoor
