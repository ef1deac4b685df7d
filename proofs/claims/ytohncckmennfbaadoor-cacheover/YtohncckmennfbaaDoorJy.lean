/- Commit. -/
import Derived.Test.YtohncckmennfbaaDoorJx
import Derived.Test.YtohncckmennfbaaDoorJk
namespace Go.Proofs.YtohncckmennfbaaDoor
set_option linter.unusedSimpArgs false
set_option linter.unusedVariables false
open Go.RowKit Go.MapKept Go.Proofs
/-- Changes that may be made: their homes, the blocks that hold their data, the data. -/
structure Chs (E : List Nat) (w : World) (n lk : Nat) (hl gs : List Nat) (cs : List (List Nat)) : Prop where
  row : ChRow w lk hl (gs.map fun g => Value.slice (some ⟨g, 0, none⟩) 512 512)
  gsl : gs.length = hl.length
  full : ∀ i, i < hl.length → Full w (gs.getD i 0) 68 (cs.getD i []) ∧ gs.getD i 0 ∈ E ∧ (cs.getD i []).length = 512 ∧ ∀ x, (cs.getD i []).getD x 0 < 256
  lkE : lk ∈ E
  ne : hl ≠ []
  few : hl.length ≤ 60
  nd : hl.Nodup
  home : ∀ k ∈ hl, 245 ≤ k ∧ k < n
theorem Chs.dsget {E : List Nat} {w : World} {n lk : Nat} {hl gs : List Nat} {cs : List (List Nat)} (h : Chs E w n lk hl gs cs) {i : Nat} (hi : i < hl.length) : (gs.map fun g => Value.slice (some ⟨g, 0, none⟩) 512 512).getD i undef = .slice (some ⟨gs.getD i 0, 0, none⟩) 512 512 := by
  have : i < gs.length := by rw [h.gsl]; exact hi
  simp [List.getD, this]
theorem Chs.same {E : List Nat} {w w' : World} {n lk : Nat} {hl gs : List Nat} {cs : List (List Nat)} (h : Chs E w n lk hl gs cs) (e : Same E w w') : Chs E w' n lk hl gs cs :=
  ⟨h.row.blk (e _ h.lkE), h.gsl, fun i hi => ⟨(h.full i hi).1.blk (e _ (h.full i hi).2.1), (h.full i hi).2⟩, h.lkE, h.ne, h.few, h.nd, h.home⟩
theorem Chs.crow {E : List Nat} {w : World} {n lk : Nat} {hl gs : List Nat} {cs : List (List Nat)} (h : Chs E w n lk hl gs cs) : CRow w (some ⟨lk, 0, none⟩) (nz hl) (List.replicate hl.length 512) := by
  have hz : (nz hl).length = hl.length := by simp [nz]
  refine ⟨by simp [hz], fun i hi => ?_⟩
  rw [hz] at hi
  obtain ⟨a, b, _⟩ := h.row.2 i hi
  rw [h.dsget hi] at b
  have e1 : (nz hl).getD i 0 = ((hl.getD i 0 : Nat) : Int) := by simp [nz, List.getD, hi]
  have e2 : (List.replicate hl.length 512).getD i 0 = 512 := by simp [List.getD, List.getElem?_replicate, hi]
  exact ⟨lk, _, _, rfl, by rw [e1]; exact a, by rw [e2]; exact b, by rw [e2]; omega⟩
theorem Chs.code {E : List Nat} {w : World} {n lk : Nat} {hl gs : List Nat} {cs : List (List Nat)} (h : Chs E w n lk hl gs cs) : checkCode (hasJ n) (nz hl) (List.replicate hl.length 512) = 0 := by
  have hz : (nz hl).length = hl.length := by simp [nz]
  rw [code_good, if_neg (by rw [hz]; have := h.few; omega)]
  intro i hi
  rw [hz] at hi
  have e1 : (nz hl).getD i 0 = ((hl.getD i 0 : Nat) : Int) := by simp [nz, List.getD, hi]
  have e2 : (List.replicate hl.length 512).getD i 0 = 512 := by simp [List.getD, List.getElem?_replicate, hi]
  have hm : hl.getD i 0 ∈ hl := by simp [List.getD, hi]
  have hh := h.home _ hm
  unfold badB
  rw [e1, e2]
  have h1 : ((hl.getD i 0 : Nat) : Int) ∉ (nz hl).take i := fun q => by
    have : (nz hl).take i = nz (hl.take i) := by simp [nz, List.map_take]
    rw [this] at q
    obtain ⟨k, hk, e⟩ := List.mem_map.1 q
    have e' : k = hl.getD i 0 := by omega
    obtain ⟨x, hx, rfl⟩ := List.getElem_of_mem hk
    have hx' : x < i := by simp at hx; omega
    rw [List.getElem_take] at e'
    have e3 : hl.getD i 0 = hl[i] := by simp [List.getD, hi]
    exact List.pairwise_iff_getElem.1 h.nd x i (by omega) hi hx' (by rw [e', e3])
  have h2 : hasJ n ((hl.getD i 0 : Nat) : Int) = true := by simp only [hasJ, decide_eq_true_eq]; omega
  rw [h2, decide_eq_false h1]
  rfl
/-- What goes ahead of record: nothing, or all of settle. -/
structure Pre (B : Nat) (E : List Nat) (wc ws : World) (j dp : Nat) (d : Dv) (T T1 : List (List Nat)) (s : Nat → List Nat) (M m1 : Nat) (Ex : List Nat) (v1 : Value) (xs1 : List Value) : Prop where
  new : ∀ x ∈ Ex, wc.heap.size ≤ x ∧ x < ws.heap.size
  apart : ∀ x ∈ Ex, v1.ownBlock ≠ some x
  len : T1.length = T.length % 4
  own : ws.ownsRow wc.heap.size 111 1 v1 xs1.length xs1
  bel : Below wc.heap.size wc ws
  chain : ∀ t E4 w4, (∀ x ∈ Ex, x ∈ E4) → Same Ex ws w4 → Chain (Fr B E4 w4) (BadJ B E4 w4 j dp d M s t) xs1 (fun w => ∃ d', JP B E4 w j dp d' T false ∧ Rest d' T s ∧ Next d d' 0) (fun w => ∃ d', JP B E4 w j dp d' T1 false ∧ Rest d' T1 s ∧ Next d d' m1)
  few : xs1.length ≤ 100000
theorem owns_below {w w' : World} {base e size n : Nat} {v : Value} {xs : List Value} (h : w.ownsRow base e size v n xs) (hb : Below w.heap.size w w') : w'.ownsRow base e size v n xs := by
  refine ⟨h.1, ?_⟩
  rcases h.2 with q | ⟨g, cap, cur, e1, hB, hg, r⟩
  · exact .inl q
  · exact .inr ⟨g, cap, cur, e1, hB, (hb.block g (Array.getElem?_eq_some_iff.1 hg).1).trans hg, r⟩
theorem rec_run {B : Nat} {E : List Nat} {w1 wc ws w3 w7 : World} {j dp lk cap M m1 : Nat} {d : Dv} {T T1 : List (List Nat)} {s : Nat → List Nat} {Ex : List Nat} {v1 v' : Value} {xs1 : List Value} {hl gs : List Nat} {cs : List (List Nat)} (hF : Fr B E w1 wc) (hJ : JP B E wc j dp d T false) (hR : Rest d T s) (hP : Pre B E wc ws j dp d T T1 s M m1 Ex v1 xs1) (hch : Chs E wc d.n lk hl gs cs)
    {jb lx sb : Nat} {bs : List (Nat × Nat)} (hbl : bs.length = hl.length) (hnew : ws.heap.size ≤ jb ∧ ws.heap.size ≤ lx ∧ ws.heap.size ≤ sb) (bj : Box w3 jb (.pointer (some ⟨j, 0, none⟩)) 49) (bl : Box w3 lx (.slice (some ⟨lk, 0, none⟩) hl.length cap) 69) (bsb : Box w3 sb (.int .i64 ((T.length % 4 : Nat) : Int)) 3)
    (hbx : ∀ x, x < bs.length → ws.heap.size ≤ (bs.getD x (0, 0)).1 ∧ ws.heap.size ≤ (bs.getD x (0, 0)).2 ∧ Box w3 (bs.getD x (0, 0)).1 (.int .i64 (x : Int)) 3 ∧ CBox w3 (bs.getD x (0, 0)).2 ((hl.getD x 0 : Nat) : Int) ((gs.map fun g => Value.slice (some ⟨g, 0, none⟩) 512 512).getD x undef)) (hb3 : Below ws.heap.size ws w3)
    (hg7 : w3.grownBy w7 v1.ownBlock) (hown7 : w7.ownsRow wc.heap.size 111 1 v' (xs1.length + (bs.length + 2)) (xs1 ++ (bs.map (f60 jb sb) ++ [.func (.func 39) #[.pointer (some ⟨dp, 0, none⟩)] #[], .func (.func 78) #[] #[.pointer (some ⟨jb, 0, none⟩), .pointer (some ⟨lx, 0, none⟩), .pointer (some ⟨sb, 0, none⟩)]])))
    (hM : d.ops + M ≤ 1000000) (hm1 : m1 + 63 ≤ M) :
    Calls Tryd.prog 53 #[.pointer (some ⟨j, 0, none⟩), v'] w7 (JAns B E w1 j dp d M (T1 ++ [hl]) s (newS s hl cs)) := by
  have o3 := owns_below hP.own hb3
  have hbc : Below wc.heap.size wc w3 := hP.bel.trans (hb3.mono hP.bel.size)
  have hb7 : Below wc.heap.size wc w7 := hbc.grown hg7 hbc.size (fun x hx => (hP.own.lt x hx).1)
  have hsz7 : w3.heap.size ≤ w7.heap.size := hg7.size
  have hzs := hP.bel.size
  have bj7 := bj.grown o3 (by decide) hg7
  have bl7 := bl.grown o3 (by decide) hg7
  have bs7 := bsb.grown o3 (by decide) hg7
  rw [← hP.len] at bs7
  have h4 : T1.length < 4 := by rw [hP.len]; omega
  have hfew := hch.few
  have hfew1 := hP.few
  have hlen : (xs1 ++ (bs.map (f60 jb sb) ++ [Value.func (.func 39) #[.pointer (some ⟨dp, 0, none⟩)] #[], Value.func (.func 78) #[] #[.pointer (some ⟨jb, 0, none⟩), .pointer (some ⟨lx, 0, none⟩), .pointer (some ⟨sb, 0, none⟩)]])).length = xs1.length + (bs.length + 2) := by simp
  have hsame : Same Ex ws w7 := fun x hx => (hg7.block x (Nat.lt_of_lt_of_le (hP.new x hx).2 hb3.size) (fun e => hP.apart x hx e.symm)).trans (hb3.block x (hP.new x hx).2)
  have hEw := hF.ltw
  refine run_any (T' := T1 ++ [hl]) hF hJ hb7 (by rw [hlen]; exact hown7) (by rw [hlen]; omega) (by rw [hlen]; omega) (Ex ++ (jb :: lx :: sb :: (bs.map Prod.fst ++ bs.map Prod.snd))) (fun x hx => ?_) hR (fun E4 hE4 hEx => ?_)
  · rcases List.mem_append.1 hx with q | q
    · have hq := hP.new x q; have := hb3.size; exact ⟨hq.1, by omega⟩
    · simp only [List.mem_cons, List.mem_append] at q
      rcases q with rfl | rfl | rfl | q | q
      · exact ⟨by omega, bj7.lt⟩
      · exact ⟨by omega, bl7.lt⟩
      · exact ⟨by omega, bs7.lt⟩
      · obtain ⟨p, hp, rfl⟩ := List.mem_map.1 q
        obtain ⟨i, hi, rfl⟩ := List.getElem_of_mem hp
        obtain ⟨a1, a2, a3, a4⟩ := hbx i hi
        have e : bs.getD i (0, 0) = bs[i] := by simp [List.getD, hi]
        rw [e] at a1 a2 a3 a4
        exact ⟨by omega, (a3.grown o3 (by decide) hg7).lt⟩
      · obtain ⟨p, hp, rfl⟩ := List.mem_map.1 q
        obtain ⟨i, hi, rfl⟩ := List.getElem_of_mem hp
        obtain ⟨a1, a2, a3, a4⟩ := hbx i hi
        have e : bs.getD i (0, 0) = bs[i] := by simp [List.getD, hi]
        rw [e] at a1 a2 a3 a4
        exact ⟨by omega, (a4.grown o3 hg7).lt⟩
  · have hch7 : Chs E w7 d.n lk hl gs cs := hch.same (fun x hx => hb7.block x (hEw x hx))
    have c2 := record_chain (B := B) (E := E4) (w2 := w7) (j := j) (dp := dp) (d0 := d) (T := T1) (s := s) (M := M) (m := m1) (cs := cs) (gs := gs) (n := d.n) (hEx jb (by simp)) bj7.cell (hEx sb (by simp)) bs7.cell (hEx lx (by simp)) bl7.cell (hE4 lk hch.lkE) hch7.row hM h4 bs hbl (fun x hx => by
      obtain ⟨a1, a2, a3, a4⟩ := hbx x hx
      have hx' : x < hl.length := by omega
      obtain ⟨f1, f2, f3, f4⟩ := hch7.full x hx'
      have e : bs.getD x (0, 0) = bs[x] := by simp [List.getD, hx]
      have c4 := (a4.grown o3 hg7).c.2
      rw [hch.dsget hx'] at c4
      exact ⟨hEx _ (by rw [e]; simp; exact .inr (.inr (.inr (.inr (.inl ⟨_, List.getElem_mem hx⟩))))), hEx _ (by rw [e]; simp; exact .inr (.inr (.inr (.inr (.inr ⟨_, List.getElem_mem hx⟩))))), hE4 _ f2, (a3.grown o3 (by decide) hg7).cell, c4, f1, f3, f4⟩) hch.ne hfew hch.nd hch.home rfl (by omega)
    refine ((hP.chain (newS s hl cs) E4 w7 (fun x hx => hEx x (by simp [hx])) hsame).append c2).post ?_
    rintro w' _ ⟨d', a, b, c⟩
    exact ⟨d', a, b, c.mono (by omega)⟩
/-- Refused, or nothing to do: nothing has happened. -/
theorem commit_no {w : World} {jv la : Option Addr} {cap : Nat} {ks : List Int} {ls : List Nat} (hasP : Int → Bool) (hH : ∀ w' k, Below w.heap.size w w' → Calls Tryd.prog 55 #[.pointer jv, .int .i64 k] w' fun e w'' => e = .returned (.bool (hasP k)) ∧ w'' = w') (hrow : CRow w la ks ls) (hlen : ks.length ≤ 1000000) (hno : checkCode hasP ks ls ≠ 0 ∨ ks = []) :
    Calls Tryd.prog 32 #[.pointer jv, .slice la ks.length cap] w fun e w' => e = .returned (.int .i64 (checkCode hasP ks ls)) ∧ Below w.heap.size w w' := by
  have HC : Hid _ := check_any (cap := cap) hasP hH hrow hlen
  clear hH hrow
  by_cases h0 : checkCode hasP ks ls = 0
  · have hk : ks = [] := hno.resolve_left (fun c => c h0)
    subst hk
    have HC2 : Hid (Calls Tryd.prog 50 #[.pointer jv, .slice la 0 cap] w fun e w' => e = .returned (.int .i64 0) ∧ Below w.heap.size w w') := by
      have := HC.out
      rw [h0] at this
      exact this
    rw [h0]
    clear HC hno h0
    go_enter Tryd.func32, Tryd.ntmps32
    go_wp2_with (go_at_call 50; refine Calls.mono HC2.out ?_; rintro e w2 ⟨rfl, hb⟩)
    go_ret
    exact ⟨rfl, hb⟩
  · have hne : (checkCode hasP ks ls != 0) = true := by simpa using h0
    have HC2 : Hid (Calls Tryd.prog 50 #[.pointer jv, .slice la ks.length cap] w fun e w' => e = .returned (.int .i64 (checkCode hasP ks ls)) ∧ Below w.heap.size w w') := HC.out
    clear HC hno h0
    generalize checkCode hasP ks ls = C at *
    go_enter Tryd.func32, Tryd.ntmps32
    go_wp2_with (go_at_call 50; refine Calls.mono HC2.out ?_; rintro e w2 ⟨rfl, hb⟩)
    go_ret
    exact ⟨rfl, hb⟩
theorem jhas_all {w : World} {j dp : Nat} {FP : List Nat} {d : Dv} {T : List (List Nat)} {off : Bool} (h : Jour w j dp FP d T off) : ∀ w' k, Below w.heap.size w w' → Calls Tryd.prog 55 #[.pointer (some ⟨j, 0, none⟩), .int .i64 k] w' fun e w'' => e = .returned (.bool (hasJ d.n k)) ∧ w'' = w' := fun w' k hb => jhas_any (h.below hb) k
/-- Once it is off it does nothing. -/
theorem commit_off {E : List Nat} {w : World} {j dp lk cap : Nat} {FP : List Nat} {d : Dv} {T : List (List Nat)} {hl gs : List Nat} {cs : List (List Nat)} (h : Jour w j dp FP d T true) (hch : Chs E w d.n lk hl gs cs) :
    Calls Tryd.prog 32 #[.pointer (some ⟨j, 0, none⟩), .slice (some ⟨lk, 0, none⟩) hl.length cap] w fun e w' => e = .returned (.int .i64 9) ∧ Below w.heap.size w w' := by
  have hz : (nz hl).length = hl.length := by simp [nz]
  have hC := check_any (cap := cap) (hasJ d.n) (jhas_all h) hch.crow (by rw [hz]; have := hch.few; omega)
  rw [hch.code, hz] at hC
  have HC : Hid (Calls Tryd.prog 50 #[.pointer (some ⟨j, 0, none⟩), .slice (some ⟨lk, 0, none⟩) hl.length cap] w fun e w' => e = .returned (.int .i64 0) ∧ Below w.heap.size w w') := hC
  have h0 : ((hl.length : Int) == 0) = false := beq_false_of_ne (by have := List.length_pos_iff.2 hch.ne; omega)
  clear hC hch
  go_enter Tryd.func32, Tryd.ntmps32
  go_wp2_with (first
    | (go_at_call 50; refine Calls.mono HC.out ?_; rintro e w2 ⟨rfl, hb⟩; have h2 := h.below hb)
    | (go_at_call 51; refine (dead_any h2).mono ?_; rintro e w3 ⟨rfl, hw⟩; subst w3))
  go_ret
  exact ⟨rfl, hb⟩
set_option maxRecDepth 100000 in
set_option maxHeartbeats 1000000 in
theorem commit_ok {B : Nat} {E : List Nat} {w1 w : World} {j dp lk cap : Nat} {d : Dv} {T : List (List Nat)} {s : Nat → List Nat} {hl gs : List Nat} {cs : List (List Nat)} (hF : Fr B E w1 w) (hJ : JP B E w j dp d T false) (hR : Rest d T s) (hch : Chs E w d.n lk hl gs cs) (ho : d.ops + (d.n + 70) ≤ 1000000) :
    Calls Tryd.prog 32 #[.pointer (some ⟨j, 0, none⟩), .slice (some ⟨lk, 0, none⟩) hl.length cap] w
      (Ans (fun w' => Fr B E w1 w' ∧ ∃ d' T', JP B E w' j dp d' T' false ∧ Rest d' T' (newS s hl cs) ∧ Next d d' (d.n + 70)) (fun w' => Fr B E w1 w' ∧ ∃ d' T', JP B E w' j dp d' T' true ∧ Safe d' s (newS s hl cs) ∧ Next d d' (d.n + 70) ∧ d'.cut = true)) := by
  have hz : (nz hl).length = hl.length := by simp [nz]
  obtain ⟨FP, hJo, hFP⟩ := id hJ
  have hn2 := hJ.ok.n2
  have h4 := hR.ph.good.four
  have hC := check_any (cap := cap) (hasJ d.n) (jhas_all hJo) hch.crow (by rw [hz]; have := hch.few; omega)
  rw [hch.code, hz] at hC
  have HC : Hid (Calls Tryd.prog 50 #[.pointer (some ⟨j, 0, none⟩), .slice (some ⟨lk, 0, none⟩) hl.length cap] w fun e w' => e = .returned (.int .i64 0) ∧ Below w.heap.size w w') := hC
  have h0 : ((hl.length : Int) == 0) = false := beq_false_of_ne (by have := List.length_pos_iff.2 hch.ne; omega)
  obtain ⟨i0, hi, hz0, hz1, hz2⟩ := info_parts info115
  have HE := hF.ltw
  have hfew := hch.few
  clear hC
  by_cases hT4 : T.length = 4
  · have hu : ((T.length : Int) == 4) = true := by rw [hT4]; rfl
    have HST : Hid (∀ wc, Below w.heap.size w wc → Calls Tryd.prog 52 #[.pointer (some ⟨j, 0, none⟩)] wc (SetlPost wc j dp d.n T)) := fun wc hb => settle_any (hJo.below hb) hR.ph.good hn2
    have HR : Hid (∀ wc, Below w.heap.size w wc → Calls Tryd.prog 54 #[.pointer (some ⟨j, 0, none⟩), .slice (some ⟨lk, 0, none⟩) hl.length cap] wc (RecPost wc j dp lk cap T.length hl (gs.map fun g => Value.slice (some ⟨g, 0, none⟩) 512 512))) := fun wc hb =>
      record_any (hJo.below hb) (hch.row.blk (hb.block _ (HE _ hch.lkE))) hch.ne hch.few
    have HPRE : Hid (∀ wc e ws, Below w.heap.size w wc → SetlPost wc j dp d.n T e ws → ∃ v1 xs1 Ex m1, e = .returned v1 ∧ Below wc.heap.size wc ws ∧ m1 + 63 ≤ d.n + 70 ∧ Pre B E wc ws j dp d T [] s (d.n + 70) m1 Ex v1 xs1) := by
      rintro wc e ws hb ⟨v, jb, l, rfl, hown, h1, h2, h3, h4', h5, h6⟩
      have hlen : ((l.map fun (p : Nat × Nat) => f57 jb p.1) ++ [Value.func (.func 39) #[.pointer (some ⟨dp, 0, none⟩)] #[], Value.func (.func 75) #[] #[.pointer (some ⟨jb, 0, none⟩)]]).length = l.length + 2 := by simp
      have hap : ∀ x t u, t ≠ 111 → Box ws x u t → v.ownBlock ≠ some x := fun x t u ht hb e => by
        rcases hown.2 with ⟨rfl, _⟩ | ⟨g, cap, cur, rfl, _, hgg, _⟩
        · cases e
        · cases e
          unfold Box at hb
          rw [hgg] at hb
          injection hb with q
          injection q with _ q2
          exact ht q2.symm
      refine ⟨v, _, jb :: l.map Prod.fst, l.length + 3, rfl, h6, by omega, fun x hx => ?_, fun x hx => ?_, by rw [hT4]; rfl, by rw [hlen]; exact hown, h6, fun t E4 w4 hE hS => ?_, by rw [hlen]; omega⟩
      · rcases List.mem_cons.1 hx with rfl | hx
        · exact ⟨h1, h2.lt⟩
        · obtain ⟨p, hp, rfl⟩ := List.mem_map.1 hx
          exact ⟨(h3 p hp).1, (h3 p hp).2.1.lt⟩
      · rcases List.mem_cons.1 hx with rfl | hx
        · exact hap _ _ _ (by decide) h2
        · obtain ⟨p, hp, rfl⟩ := List.mem_map.1 hx
          exact hap _ _ _ (by decide) (h3 p hp).2.1
      · exact settled_chain (w := wc) ((hS jb (by simp)).trans h2) (fun p hp => ⟨(h3 p hp).1, (hS p.1 (by simp; exact .inr ⟨p.2, hp⟩)).trans (h3 p hp).2.1, (h3 p hp).2.2⟩) h4' ho (by omega) hE
    have HRU : Hid (∀ wc ws e w3 v1 xs1 Ex m1, Below w.heap.size w wc → m1 + 63 ≤ d.n + 70 → Pre B E wc ws j dp d T [] s (d.n + 70) m1 Ex v1 xs1 → RecPost ws j dp lk cap T.length hl (gs.map fun g => Value.slice (some ⟨g, 0, none⟩) 512 512) e w3 → ∃ g2 n2 cap2 xs2, e = .returned (.slice (some ⟨g2, 0, none⟩) n2 cap2) ∧ n2 ≤ 62 ∧ xs2.length = n2 ∧ (∀ jx u, xs2[jx]? = some u → w3.cell? ((⟨g2, 0, none⟩ : Addr).add jx) = some u) ∧ (∀ u ∈ xs2, u.oneCell' = true) ∧ wc.heap.size ≤ w3.heap.size ∧ xs1.length ≤ 100000 ∧ w3.ownsRow wc.heap.size 111 1 v1 xs1.length xs1 ∧
        ∀ v' w7, w7.ownsRow wc.heap.size 111 1 v' (xs1.length + n2) (xs1 ++ xs2) → w3.grownBy w7 v1.ownBlock → Calls Tryd.prog 53 #[.pointer (some ⟨j, 0, none⟩), v'] w7 (JAns B E w1 j dp d (d.n + 70) ([] ++ [hl]) s (newS s hl cs))) := by
      rintro wc ws e w3 v1 xs1 Ex m1 hb hm1 hpre ⟨v, jb, lx, sb, bs, rfl, hown, hbl, hnew, bj, bl, bsb, hbx, hb3⟩
      rcases hown.2 with ⟨rfl, h0⟩ | ⟨g2, cap2, cur, rfl, hB2, hg2, hle2, hm2, hcs2, ht2⟩
      · omega
      refine ⟨g2, _, cap2, _, rfl, by omega, by simp, fun jx u hju => hown.cells rfl jx u hju, fun u hu => ?_, Nat.le_trans hpre.bel.size hb3.size, hpre.few, owns_below hpre.own hb3, fun v' w7 ho7 hg7 => ?_⟩
      · rcases List.mem_append.1 hu with q | q
        · obtain ⟨p, _, rfl⟩ := List.mem_map.1 q; rfl
        · simp at q; rcases q with rfl | rfl <;> rfl
      · exact rec_run (hF.below hb) (hJ.below hb) hR hpre (hch.same (fun x hx => hb.block x (HE x hx))) hbl hnew bj bl bsb hbx hb3 hg7 ho7 ho hm1
    have HCL : Hid (∀ wc, Below w.heap.size w wc → wc.cell? ⟨j, 2, none⟩ = some (.int .i64 (T.length : Int))) := fun wc hb => by
      obtain ⟨F, lb, e, hd, hj, _⟩ := hJo.below hb
      exact hj.c.2.2.1
    clear hch hJ hR hFP hfew hT4
    go_enter Tryd.func32, Tryd.ntmps32
    go_wp2_with (first
      | (go_at_call 50; refine Calls.mono HC.out ?_; rintro e w2 ⟨rfl, hb⟩; have h2 := hJo.below hb; have q2 := HCL.out _ hb)
      | (go_at_call 51; refine (dead_any h2).mono ?_; rintro e w3 ⟨rfl, hw⟩; subst w3)
      | (go_at_call 52; refine (HST.out _ hb).mono ?_; intro e ws hp; obtain ⟨v1, xs1, Ex, m1, rfl, hbs, hm1, hpre⟩ := HPRE.out _ _ _ hb hp; have HPR : Hid _ := hpre; clear hpre hp)
      | (go_at_call 54; refine (HR.out _ (hb.trans (hbs.mono hb.size))).mono ?_; intro e w3 hp; obtain ⟨g2, n2, cap2, xs2, rfl, hn2', hxl, hcells, hone, hsz3, hfw1, ho3, hrun⟩ := HRU.out _ _ _ _ _ _ _ _ hb hm1 HPR.out hp; have HRUN : Hid _ := hrun; clear hrun hp; have x1 : xs1.length + n2 ≤ maxLen := (by unfold maxLen; omega); have x2 : (xs1.length + n2) * 8 ≤ 140737488355328 := (by omega); have hln : xs2.length = n2 * 1 := (by omega))
      | (at_builtin; refine wpList_append_own _ rfl _ _ 90 rfl w2.heap.size 111 i0 .nilFunc 1 8 Tryd.underlying90 hi hz0 hz1 hz2 rfl (by decide) v1 xs1.length xs1 rfl ho3 ⟨g2, 0, none⟩ n2 cap2 xs2 rfl hln hcells hone x1 x2 hsz3 ?_; intro v' w7 hown7 hg7 hnil7)
      | (go_at_call 53; refine Calls.mono (HRUN.out v' w7 hown7 hg7) ?_; rintro e w5 ⟨c, rfl, hc⟩))
    go_ret
    refine ⟨c, rfl, hc.imp (fun ⟨a, b, d', e, f, g⟩ => ⟨a, b, d', _, e, f, g⟩) id⟩
  · have hu : ((T.length : Int) == 4) = false := by simp; omega
    have HR : Hid (∀ wc, Below w.heap.size w wc → Calls Tryd.prog 54 #[.pointer (some ⟨j, 0, none⟩), .slice (some ⟨lk, 0, none⟩) hl.length cap] wc (RecPost wc j dp lk cap T.length hl (gs.map fun g => Value.slice (some ⟨g, 0, none⟩) 512 512))) := fun wc hb =>
      record_any (hJo.below hb) (hch.row.blk (hb.block _ (HE _ hch.lkE))) hch.ne hch.few
    have HRU : Hid (∀ wc e w3, Below w.heap.size w wc → RecPost wc j dp lk cap T.length hl (gs.map fun g => Value.slice (some ⟨g, 0, none⟩) 512 512) e w3 → ∃ g2 n2 cap2 xs2, e = .returned (.slice (some ⟨g2, 0, none⟩) n2 cap2) ∧ n2 ≤ 62 ∧ xs2.length = n2 ∧ (∀ jx u, xs2[jx]? = some u → w3.cell? ((⟨g2, 0, none⟩ : Addr).add jx) = some u) ∧ (∀ u ∈ xs2, u.oneCell' = true) ∧ wc.heap.size ≤ w3.heap.size ∧
        ∀ v' w7, w7.ownsRow wc.heap.size 111 1 v' (0 + n2) ([] ++ xs2) → w3.grownBy w7 (Value.slice none 0 0).ownBlock → Calls Tryd.prog 53 #[.pointer (some ⟨j, 0, none⟩), v'] w7 (JAns B E w1 j dp d (d.n + 70) (T ++ [hl]) s (newS s hl cs))) := by
      rintro wc e w3 hb ⟨v, jb, lx, sb, bs, rfl, hown, hbl, hnew, bj, bl, bsb, hbx, hb3⟩
      rcases hown.2 with ⟨rfl, h0⟩ | ⟨g2, cap2, cur, rfl, hB2, hg2, hle2, hm2, hcs2, ht2⟩
      · omega
      refine ⟨g2, _, cap2, _, rfl, by omega, by simp, fun jx u hju => hown.cells rfl jx u hju, fun u hu => ?_, hb3.size, fun v' w7 ho7 hg7 => ?_⟩
      · rcases List.mem_append.1 hu with q | q
        · obtain ⟨p, _, rfl⟩ := List.mem_map.1 q; rfl
        · simp at q; rcases q with rfl | rfl <;> rfl
      · refine rec_run (T1 := T) (m1 := 0) (Ex := []) (v1 := .slice none 0 0) (xs1 := []) (hF.below hb) (hJ.below hb) hR ⟨by simp, by simp, by omega, World.ownsRow_nil _ _ _ _, Below.refl _ _, fun t E4 w4 _ _ => .nil fun _ _ h => h, by simp⟩ (hch.same (fun x hx => hb.block x (HE x hx))) hbl hnew bj bl bsb hbx hb3 hg7 ?_ ho (by omega)
        simpa using ho7
    have HCL : Hid (∀ wc, Below w.heap.size w wc → wc.cell? ⟨j, 2, none⟩ = some (.int .i64 (T.length : Int))) := fun wc hb => by
      obtain ⟨F, lb, e, hd, hj, _⟩ := hJo.below hb
      exact hj.c.2.2.1
    clear hch hJ hR hFP hfew
    go_enter Tryd.func32, Tryd.ntmps32
    go_wp2_with (first
      | (go_at_call 50; refine Calls.mono HC.out ?_; rintro e w2 ⟨rfl, hb⟩; have h2 := hJo.below hb; have q2 := HCL.out _ hb)
      | (go_at_call 51; refine (dead_any h2).mono ?_; rintro e w3 ⟨rfl, hw⟩; subst w3)
      | (go_at_call 54; refine (HR.out _ hb).mono ?_; intro e w3 hp; obtain ⟨g2, n2, cap2, xs2, rfl, hn2', hxl, hcells, hone, hsz3, hrun⟩ := HRU.out _ _ _ hb hp; have HRUN : Hid _ := hrun; clear hrun hp; have x1 : 0 + n2 ≤ maxLen := (by unfold maxLen; omega); have x2 : (0 + n2) * 8 ≤ 140737488355328 := (by omega); have hln : xs2.length = n2 * 1 := (by omega))
      | (at_builtin; refine wpList_append_own _ rfl _ _ 90 rfl w2.heap.size 111 i0 .nilFunc 1 8 Tryd.underlying90 hi hz0 hz1 hz2 rfl (by decide) (.slice none 0 0) 0 [] rfl (World.ownsRow_nil _ _ _ _) ⟨g2, 0, none⟩ n2 cap2 xs2 rfl hln hcells hone x1 x2 hsz3 ?_; intro v' w7 hown7 hg7 hnil7)
      | (go_at_call 53; refine Calls.mono (HRUN.out v' w7 hown7 hg7) ?_; rintro e w5 ⟨c, rfl, hc⟩))
    go_ret
    refine ⟨c, rfl, hc.imp (fun ⟨a, b, d', e, f, g⟩ => ⟨a, b, d', _, e, f, g⟩) id⟩
end Go.Proofs.YtohncckmennfbaaDoor
