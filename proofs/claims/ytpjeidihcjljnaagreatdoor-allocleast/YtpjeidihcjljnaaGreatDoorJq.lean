/- settle: its row of steps is made. -/
import Derived.Test.YtpjeidihcjljnaaGreatDoorJs
namespace Go.Proofs.YtpjeidihcjljnaaGreatDoor
set_option linter.unusedSimpArgs false
set_option linter.unusedVariables false
open Go.RowKit Go.MapKept Go.Proofs
theorem info115 : (Tryz.prog.info? 89).map (fun i => (i.zero, i.size, i.bytes)) = some (some .nilFunc, 1, 8) := by kernel_rfl
/-- A variable in a block of its own. -/
def Box (w : World) (b : Nat) (v : Value) (t : Nat) : Prop := w.heap[b]? = some (.cells #[v] t (0, 0))
theorem Box.cell {w : World} {b : Nat} {v : Value} {t : Nat} (h : Box w b v t) : w.cell? ⟨b, 0, none⟩ = some v := by rw [cell_of_row _ _ _ _ _ _ h]; rfl
theorem Box.lt {w : World} {b : Nat} {v : Value} {t : Nat} (h : Box w b v t) : b < w.heap.size := (Array.getElem?_eq_some_iff.1 h).1
theorem Box.below {w w' : World} {b : Nat} {v : Value} {t : Nat} (h : Box w b v t) (hb : Below w.heap.size w w') : Box w' b v t := (hb.block b h.lt).trans h
/-- A row of steps of one's own is none of these. -/
theorem Box.grown {w w' : World} {b : Nat} {v : Value} {t : Nat} (h : Box w b v t) {base n : Nat} {r : Value} {xs : List Value} (ho : w.ownsRow base 89 1 r n xs) (ht : t ≠ 89) (hg : w.grownBy w' r.ownBlock) : Box w' b v t := by
  refine (hg.block b h.lt (fun e => ?_)).trans h
  rcases ho.2 with ⟨rfl, _⟩ | ⟨g, cap, cur, rfl, _, hgg, _⟩
  · cases e
  · cases e
    unfold Box at h
    rw [hgg] at h
    injection h with q
    injection q with _ q2
    exact ht q2.symm
structure StAt (w0 wr : World) (j jb : Nat) (hs : List Nat) (i : Nat) (v : Value) (l : List (Nat × Nat)) : Prop where
  own : wr.ownsRow w0.heap.size 89 1 v l.length (l.map fun p => f57 jb p.1)
  jbx : Box wr jb (.pointer (some ⟨j, 0, none⟩)) 43
  box : ∀ p ∈ l, w0.heap.size ≤ p.1 ∧ Box wr p.1 (.int .i64 (p.2 : Int)) 3
  hs : l.map Prod.snd = hs.take i
  bel : Below w0.heap.size w0 wr
theorem func_one (fn : Fn) (a b : Array Value) : (Value.func fn a b).oneCell' = true := rfl
theorem owns_base {w : World} {base base' e size n : Nat} {v : Value} {xs : List Value} (h : w.ownsRow base e size v n xs) (hb : base' ≤ base) : w.ownsRow base' e size v n xs := by
  refine ⟨h.1, ?_⟩
  rcases h.2 with q | ⟨g, cap, cur, e1, hB, r⟩
  · exact .inl q
  · exact .inr ⟨g, cap, cur, e1, Nat.le_trans hb hB, r⟩
theorem StAt.step {w0 wr W7 : World} {j jb i k : Nat} {hs : List Nat} {v v' : Value} {l : List (Nat × Nat)} (h : StAt w0 wr j jb hs i v l) (hi : i < hs.length) (hk : hs.getD i 0 = k)
    (hg : ((wr.alloc (.cells #[.int .i64 (k : Int)] 3)).alloc (.cells #[f57 jb wr.heap.size] 89)).grownBy W7 v.ownBlock) (hown : W7.ownsRow w0.heap.size 89 1 v' (l.length + 1) ((l.map fun p => f57 jb p.1) ++ [f57 jb wr.heap.size])) :
    StAt w0 W7 j jb hs (i + 1) v' (l ++ [(wr.heap.size, k)]) := by
  have b5 : Below wr.heap.size wr (wr.alloc (.cells #[.int .i64 (k : Int)] 3)) := (Below.refl _ _).alloc (Nat.le_refl _) _
  have b6 : Below wr.heap.size wr ((wr.alloc (.cells #[.int .i64 (k : Int)] 3)).alloc (.cells #[f57 jb wr.heap.size] 89)) := b5.alloc b5.size _
  have o6 := (h.own.alloc (.cells #[.int .i64 (k : Int)] 3)).alloc (.cells #[f57 jb wr.heap.size] 89)
  have nb : Box ((wr.alloc (.cells #[.int .i64 (k : Int)] 3)).alloc (.cells #[f57 jb wr.heap.size] 89)) wr.heap.size (.int .i64 (k : Int)) 3 :=
    Box.below (w := wr.alloc (.cells #[.int .i64 (k : Int)] 3)) (heap_alloc_new wr _) ((Below.refl _ _).alloc (Nat.le_refl _) _)
  have hz := h.bel.size
  refine ⟨by rw [List.length_append, List.map_append]; exact hown, (h.jbx.below b6).grown o6 (by decide) hg, fun p hp => ?_, ?_, (h.bel.trans (b6.mono hz)).grown hg (Nat.le_trans hz b6.size) (fun x hx => (h.own.lt x hx).1)⟩
  · rcases List.mem_append.1 hp with q | q
    · exact ⟨(h.box p q).1, ((h.box p q).2.below b6).grown o6 (by decide) hg⟩
    · obtain rfl : p = (wr.heap.size, k) := by simpa using q
      exact ⟨hz, nb.grown o6 (by decide) hg⟩
  · rw [List.map_append, h.hs, List.take_add_one]
    have : hs[i]? = some k := by rw [← hk]; simp [List.getD, hi]
    rw [this]; rfl
def SetlPost (w : World) (j dp n : Nat) (T : List (List Nat)) (e : Ending) (w' : World) : Prop :=
  ∃ (v : Value) (jb : Nat) (l : List (Nat × Nat)), e = .returned v ∧ w'.ownsRow w.heap.size 89 1 v (l.length + 2) ((l.map fun p => f57 jb p.1) ++ [.func (.func 31) #[.pointer (some ⟨dp, 0, none⟩)] #[], .func (.func 87) #[] #[.pointer (some ⟨jb, 0, none⟩)]]) ∧
      w.heap.size ≤ jb ∧ Box w' jb (.pointer (some ⟨j, 0, none⟩)) 43 ∧ (∀ p ∈ l, w.heap.size ≤ p.1 ∧ Box w' p.1 (.int .i64 (p.2 : Int)) 3 ∧ ∃ q, p.2 ∈ T.getD q []) ∧ (∀ k, (∃ q, k ∈ T.getD q []) → k ∈ l.map Prod.snd) ∧ l.length ≤ n ∧ Below w.heap.size w w'
set_option maxRecDepth 100000 in
theorem settle_any {w : World} {j dp : Nat} {FP : List Nat} {d : Dv} {T : List (List Nat)} {off : Bool} (h : Jour w j dp FP d T off) {n : Nat} (hT : GoodT n T) (hn : n ≤ 65536) :
    Calls Tryz.prog 67 #[.pointer (some ⟨j, 0, none⟩)] w (SetlPost w j dp n T) := by
  have hmf : ∀ (fn : Fn) (first cap : Array Value) (w : World), (Instr.makeFunc fn first cap).run Tryz.prog w = .ok (.func fn first cap) w := fun _ _ _ _ => rfl
  obtain ⟨i0, hi, hz0, hz1, hz2⟩ := info_parts info115
  have b1 : Below w.heap.size w (w.alloc (.cells #[.pointer (some ⟨j, 0, none⟩)] 43)) := (Below.refl _ _).alloc (Nat.le_refl _) _
  have hB1 : Box (w.alloc (.cells #[.pointer (some ⟨j, 0, none⟩)] 43)) w.heap.size (.pointer (some ⟨j, 0, none⟩)) 43 := heap_alloc_new w _
  have HH : Hid _ := homes_any (h.below b1) hT hn
  have hc1 := hB1.cell
  have HJ : Hid (∀ w', Below w.heap.size w w' → w'.cell? ⟨j, 0, none⟩ = some (.pointer (some ⟨dp, 0, none⟩))) := fun w' hb => by
    obtain ⟨F, lb, e, hd, hj, _⟩ := h.below hb
    exact hj.c.1
  have HS1 : Hid (Below w.heap.size w (w.alloc (.cells #[.pointer (some ⟨j, 0, none⟩)] 43)) ∧ Box (w.alloc (.cells #[.pointer (some ⟨j, 0, none⟩)] 43)) w.heap.size (.pointer (some ⟨j, 0, none⟩)) 43 ∧ w.heap.size ≤ (w.alloc (.cells #[.pointer (some ⟨j, 0, none⟩)] 43)).heap.size) := ⟨b1, hB1, b1.size⟩
  clear b1 hB1 h
  go_enter Tryz.func67, Tryz.ntmps67
  go_wp2_with (go_at_call 84; refine Calls.mono HH.out ?_; rintro e w2 ⟨a, cap, hs, rfl, p1, p2, p3, p4⟩)
  have hlen : hs.length ≤ n := fewNats n hs (p2.imp (fun q => by omega)) (fun x hx => by obtain ⟨q, hq⟩ := (p1 x).1 hx; exact (hT.home q x hq).2)
  have HB2 : Hid (Below w.heap.size w w2) := HS1.out.1.trans (p4.mono HS1.out.2.2)
  have HP1 : Hid _ := p1
  have hlI : (hs.length : Int) ≤ 65536 := by omega
  clear p1 p2
  go_loopw [2, 8] (fun v i wr => ∃ k l, k ≤ hs.length ∧ i = .int .i64 (k : Int) ∧ StAt w2 wr j w.heap.size hs k v l) (fun _ i _ => hs.length - (intOf i).toNat)
  case atStart =>
    refine ⟨0, [], by omega, rfl, World.ownsRow_nil _ _ _ _, HS1.out.2.1.below p4, by simp, by simp, Below.refl _ _⟩
  case round =>
    obtain ⟨k, l, hk, rfl, hA⟩ := hrel
    have hll : l.length = k := by have := congrArg List.length hA.hs; simp at this; omega
    have hcj := hA.jbx.cell
    have hBw := hA.bel.size
    by_cases hlt : k < hs.length
    · have hltI : (k : Int) < (hs.length : Int) := by omega
      have hrow := p3.below hA.bel
      obtain ⟨b, off, rfl, hcell, _⟩ := hrow k (by simpa [nz] using hlt)
      have hget : (nz hs).getD k 0 = ((hs.getD k 0 : Nat) : Int) := by simp [nz, List.getD, hlt]
      rw [hget] at hcell
      obtain ⟨K, HK⟩ : ∃ K, hs.getD k 0 = K := ⟨_, rfl⟩
      rw [HK] at hcell
      have hown6 := (hA.own.alloc (.cells #[.int .i64 (K : Int)] 3)).alloc (.cells #[f57 w.heap.size wr.heap.size] 89)
      have s5 : (wr.alloc (.cells #[.int .i64 (K : Int)] 3)).heap.size = wr.heap.size + 1 := by show (wr.heap.push _).size = _; simp
      have hnw : ∀ (j : Nat) (u : Value), [f57 w.heap.size wr.heap.size][j]? = some u → ((wr.alloc (.cells #[.int .i64 (K : Int)] 3)).alloc (.cells #[f57 w.heap.size wr.heap.size] 89)).cell? ((⟨wr.heap.size + 1, 0, none⟩ : Addr).add j) = some u := by
        intro j u hj
        have e := heap_alloc_new (wr.alloc (.cells #[.int .i64 (K : Int)] 3)) (.cells #[f57 w.heap.size wr.heap.size] 89)
        rw [s5] at e
        rw [Addr.add_lit, cell_of_row _ _ _ _ _ _ e]
        simpa using hj
      have h1c : ∀ u ∈ [f57 w.heap.size wr.heap.size], u.oneCell' = true := by intro u hu; simp at hu; subst hu; rfl
      have x1 : l.length + 1 ≤ maxLen := by unfold maxLen; omega
      have x2 : (l.length + 1) * 8 ≤ 140737488355328 := by omega
      have x3 : w2.heap.size ≤ ((wr.alloc (.cells #[.int .i64 (K : Int)] 3)).alloc (.cells #[f57 w.heap.size wr.heap.size] 89)).heap.size := by show _ ≤ ((wr.heap.push _).push _).size; simp; omega
      have HKK : Hid (hs.getD k 0 = K) := HK
      clear HK hrow hget s5 p3
      unfold f57 at hown6 hnw h1c x3
      go_wp2_with (at_builtin; refine wpList_append_own _ rfl _ _ 63 rfl w2.heap.size 89 i0 .nilFunc 1 8 Tryz.underlying63 hi hz0 hz1 hz2 rfl (by decide) u2 l.length _ rfl hown6 ⟨wr.heap.size + 1, 0, none⟩ 1 1 [Value.func (.func 85) #[] #[.pointer (some ⟨w.heap.size, 0, none⟩), .pointer (some ⟨wr.heap.size, 0, none⟩)]] rfl rfl hnw h1c x1 x2 x3 ?_; intro v' w7 hown7 hg7 hnil7)
      exact ⟨⟨k + 1, _, by omega, by go_num, hA.step hlt HKK.out hg7 hown7⟩, by simp [intOf]; omega⟩
    · obtain rfl : k = hs.length := by omega
      have hcd := HJ.out wr (HB2.out.trans (hA.bel.mono HB2.out.size))
      have hown6 := hA.own.alloc (.cells #[.func (.func 31) #[.pointer (some ⟨dp, 0, none⟩)] #[], .func (.func 87) #[] #[.pointer (some ⟨w.heap.size, 0, none⟩)]] 89)
      have hnw : ∀ (j : Nat) (u : Value), [Value.func (.func 31) #[.pointer (some ⟨dp, 0, none⟩)] #[], .func (.func 87) #[] #[.pointer (some ⟨w.heap.size, 0, none⟩)]][j]? = some u → (wr.alloc (.cells #[.func (.func 31) #[.pointer (some ⟨dp, 0, none⟩)] #[], .func (.func 87) #[] #[.pointer (some ⟨w.heap.size, 0, none⟩)]] 89)).cell? ((⟨wr.heap.size, 0, none⟩ : Addr).add j) = some u := by
        intro j u hj
        have e := heap_alloc_new wr (.cells #[.func (.func 31) #[.pointer (some ⟨dp, 0, none⟩)] #[], .func (.func 87) #[] #[.pointer (some ⟨w.heap.size, 0, none⟩)]] 89)
        rw [Addr.add_lit, cell_of_row _ _ _ _ _ _ e]
        simpa using hj
      have h1c : ∀ u ∈ [Value.func (.func 31) #[.pointer (some ⟨dp, 0, none⟩)] #[], .func (.func 87) #[] #[.pointer (some ⟨w.heap.size, 0, none⟩)]], u.oneCell' = true := by intro u hu; simp at hu; rcases hu with rfl | rfl <;> rfl
      have x1 : l.length + 2 ≤ maxLen := by unfold maxLen; omega
      have x2 : (l.length + 2) * 8 ≤ 140737488355328 := by omega
      have x3 : w2.heap.size ≤ (wr.alloc (.cells #[.func (.func 31) #[.pointer (some ⟨dp, 0, none⟩)] #[], .func (.func 87) #[] #[.pointer (some ⟨w.heap.size, 0, none⟩)]] 89)).heap.size := by show _ ≤ (wr.heap.push _).size; simp; omega
      go_wp2_with (at_builtin; refine wpList_append_own _ rfl _ _ 63 rfl w2.heap.size 89 i0 .nilFunc 1 8 Tryz.underlying63 hi hz0 hz1 hz2 rfl (by decide) u2 l.length (l.map fun p => f57 w.heap.size p.1) rfl hown6 ⟨wr.heap.size, 0, none⟩ 2 2 [Value.func (.func 31) #[.pointer (some ⟨dp, 0, none⟩)] #[], .func (.func 87) #[] #[.pointer (some ⟨w.heap.size, 0, none⟩)]] rfl rfl hnw h1c x1 x2 x3 ?_; intro v' w7 hown7 hg7 hnil7)
      go_ret
      have b5 : Below wr.heap.size wr (wr.alloc (.cells #[.func (.func 31) #[.pointer (some ⟨dp, 0, none⟩)] #[], .func (.func 87) #[] #[.pointer (some ⟨w.heap.size, 0, none⟩)]] 89)) := (Below.refl _ _).alloc (Nat.le_refl _) _
      have hhs : l.map Prod.snd = hs := by rw [hA.hs, List.take_length]
      have hbe : Below w2.heap.size w2 w7 := (hA.bel.trans (b5.mono hBw)).grown hg7 x3 (fun x hx => (hA.own.lt x hx).1)
      refine ⟨v', w.heap.size, l, rfl, owns_base hown7 HB2.out.size, Nat.le_refl _, (hA.jbx.below b5).grown hown6 (by decide) hg7, fun p hp => ⟨Nat.le_trans HB2.out.size (hA.box p hp).1, ((hA.box p hp).2.below b5).grown hown6 (by decide) hg7, (HP1.out p.2).1 (by rw [← hhs]; exact List.mem_map.2 ⟨p, hp, rfl⟩)⟩, fun q hq => by rw [hhs]; exact (HP1.out q).2 hq, by omega, HB2.out.trans (hbe.mono HB2.out.size)⟩
end Go.Proofs.YtpjeidihcjljnaaGreatDoor
