/- The walk of BitsBack: true for every argument, and nothing that was there is turned. -/
import Derived.Test.YtffnhmccoacglaaBck
namespace Go.Proofs.Ytffnhmccoacglaa
set_option linter.unusedSimpArgs false
set_option linter.unusedVariables false
open Go.RowKit
theorem mask8 (V s : Nat) (h1 : 1 ≤ s) (h2 : s < 8) (h : V ≤ 18446744073709551615) : bits .and .u64 (V : Int) (IntKind.u64.wrap (IntKind.u64.wrap (2 ^ (8 * s)) - 1)) = ((V % 256 ^ s : Nat) : Int) := by
  rw [and_mask _ (8 * s) (by omega) (by omega) (by omega)]
  rw [Int.natCast_emod]
  have e : ((256 ^ s : Nat) : Int) = 2 ^ (8 * s) := by
    have : (256 : Nat) ^ s = 2 ^ (8 * s) := by rw [Nat.pow_mul]
    rw [this]; simp
  rw [e]
set_option maxRecDepth 100000 in
set_option maxHeartbeats 1600000 in
theorem bitsBack_walk (a0 : Option Addr) (cap0 : Nat) (l0 : List Nat) (a1 : Int) (a2 : Int) (a3 : Bool) (a4 : Int) (a5 : Int) (a6 : Int) (a7 : Bool) (w : World) (w0 : Row w a0 l0) (m0 : l0.length ≤ maxLen) (w1 : (Lit.int .i64 a1).wf = true) (w2 : (Lit.int .i64 a2).wf = true) (w4 : (Lit.int .u64 a4).wf = true) (w5 : (Lit.int .i64 a5).wf = true) (w6 : (Lit.int .i64 a6).wf = true) :
    Calls Try.prog 7 #[.slice a0 l0.length cap0, .int .i64 a1, .int .i64 a2, .bool a3, .int .u64 a4, .int .i64 a5, .int .i64 a6, .bool a7] w fun e w' => e = .returned (.bool true) ∧ Below w.heap.size w w' := by
  obtain ⟨b0, b1⟩ := bdu64 w4
  obtain ⟨V, rfl⟩ := Int.eq_ofNat_of_zero_le b0
  obtain ⟨c0, c1⟩ := bd64 w5
  clear w1 w2 w4 w5 w6
  by_cases hl : 2000 < (l0.length : Int)
  · go_enter Try.func7, Try.ntmps7
    go_wp2_with (go_at_call 14; refine (awake_any _).mono ?_; rintro e w' ⟨rfl, hb⟩)
    go_ret
    exact ⟨rfl, by assumption⟩
  have hl2 : l0.length ≤ 2000 := by omega
  have hV : V ≤ 18446744073709551615 := by omega
  obtain ⟨G, HG⟩ : ∃ G, Hid (groups V = G) := ⟨_, rfl⟩
  have HU : Hid (uv (G ++ [129]) 0 0 = (V, G.length)) := by rw [← HG.out]; exact uv_groups V [129] hV
  have hGl := groups_len V
  have HGb : Hid (∀ i, (G ++ [129]).getD i 0 < 256) := by
    show ∀ i, _
    rw [← HG.out]
    intro i
    by_cases h : i < (groups V).length
    · have := groups_lt V hV i
      simpa [List.getD, List.getElem?_append, h] using this
    · by_cases h2 : i = (groups V).length
      · subst h2; simp [List.getD]
      · rw [getD_out _ _ (by simp; omega)]; omega
  rw [HG.out] at hGl
  have hzb := zig_bd a5 c0 c1
  have HZ : Hid (zag (zig a5) = a5) := zag_zig a5
  generalize hze : zig a5 = z at *
  have HZE : Hid (zig a5 = z) := hze
  clear hze
  have eVV : ((V : Int) == (V : Int)) = true := by simp
  have eGG : ((G.length : Int) == (G.length : Int)) = true := by simp
  have e55 : (a5 == a5) = true := by simp
  have HNB := fun h => narrow_back a5 a6 a7 c0 c1 h
  obtain ⟨nb, HNb⟩ : ∃ nb, Hid (narrowB a5 a6 a7 = nb) := ⟨_, rfl⟩
  obtain ⟨nv, HNv⟩ : ∃ nv, Hid (narrowV a5 a6 a7 = nv) := ⟨_, rfl⟩
  rw [HNb.out, HNv.out] at HNB
  have HNB2 : Hid (nb = true → widenI nv a6 a7 = a5 ∧ 0 ≤ nv ∧ nv ≤ 18446744073709551615) := HNB
  clear HNB
  obtain ⟨i0, hi, hz0, hz1, hz2⟩ := info_parts Try.info5
  -- the first half, in three ways: Put refuses; fewer than eight bytes; eight
  have hways : fitsB l0.length a1 a2 = false ∨ (fitsB l0.length a1 a2 = true ∧ a2 < 8) ∨ (fitsB l0.length a1 a2 = true ∧ a2 = 8) := by
    by_cases h : fitsB l0.length a1 a2 = true
    · have : 1 ≤ a2 ∧ a2 ≤ 8 ∧ 0 ≤ a1 ∧ a1 ≤ l0.length - a2 := by simpa [fitsB] using h
      by_cases h8 : a2 < 8
      · exact .inr (.inl ⟨h, h8⟩)
      · exact .inr (.inr ⟨h, by omega⟩)
    · exact .inl (by simpa using h)
  have hput := put_any a0 cap0 l0 a1 a2 a3 V w w0 hl2 hV
  have HGP : Hid (fitsB l0.length a1 a2 = true → getI (putI l0 a1 a2 a3 V) a1 a2 a3 = ((V % 256 ^ a2.toNat : Nat) : Int) ∧ (putI l0 a1 a2 a3 V).length = l0.length) := by
    intro hf
    have hf' : 1 ≤ a2 ∧ a2 ≤ 8 ∧ 0 ≤ a1 ∧ a1 ≤ l0.length - a2 := by simpa [fitsB] using hf
    have e1 : putI l0 a1 a2 a3 V = putL l0 a1.toNat a2.toNat a3 V := by simp [putI, hf]
    have e2 : (putL l0 a1.toNat a2.toNat a3 V).length = l0.length := putL_length _ _ _ _ _
    refine ⟨?_, by rw [e1, e2]⟩
    rw [e1]
    simp only [getI, e2, hf, if_true]
    rw [get_put _ _ _ _ _ (by omega)]
  generalize putI l0 a1 a2 a3 V = l1 at *
  have hV2 : (V : Int) < 18446744073709551616 := by omega
  rcases hways with hf | ⟨hf, h8⟩ | ⟨hf, h8⟩
  · rw [hf] at hput
    go_enter Try.func7, Try.ntmps7
    go_wp2_with fail
    refine hput.mono ?_
    rintro e w1 ⟨⟨a', cap', rfl, hrow⟩, hb1⟩
    have HB1 : Hid (Below w.heap.size w w1) := hb1
    have HS1 := hb1.size
    clear hput hrow hb1 hf HGP
    go_wp2_with fail
    refine (varint_any V _ hV).mono ?_
    rintro e w3 ⟨v, rfl, hown, hb3⟩
    rw [HG.out] at hown
    go_wp2_with (at_builtin; refine wpList_append_own _ rfl _ _ 22 rfl w1.heap.size 5 i0 (.int .u8 0) 1 1 Try.underlying22 hi hz0 hz1 hz2 rfl (by decide) _ _ _ rfl (hown.alloc _) ⟨w3.heap.size, 0, none⟩ 1 1 (cv [129]) rfl rfl (one_cell rfl) (cv_one _) (by unfold maxLen; omega) (by omega) (by have := hb3.size; simp; omega) ?_; intro v' w4 hown' hgrow hnil; have R := own_step hown hb3 hb3.size hown' hgrow; clear hown' hgrow hnil hown)
    obtain ⟨a4, cap4, rfl, hrow4, hm4⟩ := owns_row R.1 HGb.out
    have HB4 : Hid (Below w.heap.size w w4) := HB1.out.trans (R.2.mono HS1)
    have HS4 : w.heap.size ≤ w4.heap.size := HB4.out.size
    clear R
    refine (unv_any a4 cap4 (G ++ [129]) w4 hrow4 hm4).mono ?_
    rintro e w5 ⟨rfl, rfl⟩
    rw [HU.out]
    clear hrow4 hm4 hb3 HGb
    go_wp2_with (go_at_call 30; refine (narrow_any _ _ _ _ c0 c1).mono ?_; rintro e w' ⟨rfl, rfl⟩; rw [HNb.out, HNv.out])
    refine (varint_any V _ hV).mono ?_
    rintro e w6 ⟨v, rfl, hown, hb6⟩
    rw [HG.out] at hown
    obtain ⟨a6', cap6, hv6⟩ : ∃ a c, v = .slice a G.length c := by
      rcases hown.2 with ⟨e, e2⟩ | ⟨g, cap, cur, e, _⟩
      · exact ⟨none, 0, by rw [e, e2]⟩
      · exact ⟨_, _, e⟩
    rw [hv6]
    have HB6 : Hid (Below w.heap.size w w6) := HB4.out.trans (hb6.mono HS4)
    clear hown hb6 hv6
    cases nb
    · go_wp2_with (first
        | (go_at_call 26; refine (zig_any _ _ c0 c1).mono ?_; rintro e w' ⟨rfl, rfl⟩; rw [HZE.out])
        | (go_at_call 28; refine (zag_any _ _ hzb.1 hzb.2).mono ?_; rintro e w' ⟨rfl, rfl⟩; rw [HZ.out]))
      refine (awake_any _).mono ?_
      rintro e w7 ⟨rfl, hb7⟩
      have HB7 : Hid (Below w.heap.size w w7) := HB6.out.trans (hb7.mono HB6.out.size)
      clear hb7
      go_wp2_with fail
      go_ret
      exact ⟨rfl, HB7.out⟩
    · obtain ⟨n1, n2, n3⟩ := HNB2.out rfl
      have HN1 : Hid (widenI nv a6 a7 = a5) := n1
      clear n1
      go_wp2_with (first
        | (go_at_call 26; refine (zig_any _ _ c0 c1).mono ?_; rintro e w' ⟨rfl, rfl⟩; rw [HZE.out])
        | (go_at_call 28; refine (zag_any _ _ hzb.1 hzb.2).mono ?_; rintro e w' ⟨rfl, rfl⟩; rw [HZ.out])
        | (go_at_call 32; refine (widen_any _ _ _ _ n2 n3).mono ?_; rintro e w' ⟨rfl, rfl⟩; rw [HN1.out]))
      refine (awake_any _).mono ?_
      rintro e w7 ⟨rfl, hb7⟩
      have HB7 : Hid (Below w.heap.size w w7) := HB6.out.trans (hb7.mono HB6.out.size)
      clear hb7
      go_wp2_with fail
      go_ret
      exact ⟨rfl, HB7.out⟩
  · have hgl := HGP.out hf
    have hf' : 1 ≤ a2 ∧ a2 ≤ 8 ∧ 0 ≤ a1 ∧ a1 ≤ l0.length - a2 := by simpa [fitsB] using hf
    obtain ⟨sz, rfl⟩ := Int.eq_ofNat_of_zero_le (show 0 ≤ a2 by omega)
    have HM : Hid (bits .and .u64 (V : Int) (IntKind.u64.wrap (IntKind.u64.wrap (2 ^ (8 * sz)) - 1)) = ((V % 256 ^ sz : Nat) : Int)) := mask8 V sz (by omega) (by omega) hV
    have hmm : (((V % 256 ^ sz : Nat) : Int) != bits .and .u64 (V : Int) (IntKind.u64.wrap (IntKind.u64.wrap (2 ^ (8 * sz)) - 1))) = false := by rw [HM.out]; simp
    have hll : ((l0.length : Int) != (l0.length : Int)) = false := by simp
    obtain ⟨x, hx⟩ : ∃ x, V % 256 ^ sz = x := ⟨_, rfl⟩
    rw [Int.toNat_natCast, hx] at hgl
    rw [hx] at hmm
    have HL1 : Hid (l1.length = l0.length) := hgl.2
    have HX : Hid (getI l1 a1 sz a3 = (x : Int)) := hgl.1
    rw [hf, HL1.out] at hput
    have hsz1 : 1 ≤ (sz : Int) := by omega
    have HF : Hid (fitsB l0.length a1 sz = true) := hf
    clear hgl hx HM hf HGP
    go_enter Try.func7, Try.ntmps7
    go_wp2_with fail
    refine hput.mono ?_
    rintro e w1 ⟨⟨a', cap', rfl, hrow⟩, hb1⟩
    have HB1 : Hid (Below w.heap.size w w1) := hb1
    have HS1 := hb1.size
    clear hput hb1
    go_wp2_with fail
    have hget := get_any a' cap' l1 a1 sz a3 w1 hrow (by rw [HL1.out]; exact m0)
    rw [HL1.out, HX.out, HF.out] at hget
    refine hget.mono ?_
    rintro e w2 ⟨rfl, he2⟩
    subst he2
    clear hget hrow
    go_wp2_with fail
    refine (varint_any V _ hV).mono ?_
    rintro e w3 ⟨v, rfl, hown, hb3⟩
    rw [HG.out] at hown
    go_wp2_with (at_builtin; refine wpList_append_own _ rfl _ _ 22 rfl w2.heap.size 5 i0 (.int .u8 0) 1 1 Try.underlying22 hi hz0 hz1 hz2 rfl (by decide) _ _ _ rfl (hown.alloc _) ⟨w3.heap.size, 0, none⟩ 1 1 (cv [129]) rfl rfl (one_cell rfl) (cv_one _) (by unfold maxLen; omega) (by omega) (by have := hb3.size; simp; omega) ?_; intro v' w4 hown' hgrow hnil; have R := own_step hown hb3 hb3.size hown' hgrow; clear hown' hgrow hnil hown)
    obtain ⟨a4, cap4, rfl, hrow4, hm4⟩ := owns_row R.1 HGb.out
    have HB4 : Hid (Below w.heap.size w w4) := HB1.out.trans (R.2.mono HS1)
    have HS4 : w.heap.size ≤ w4.heap.size := HB4.out.size
    clear R
    refine (unv_any a4 cap4 (G ++ [129]) w4 hrow4 hm4).mono ?_
    rintro e w5 ⟨rfl, rfl⟩
    rw [HU.out]
    clear hrow4 hm4 hb3 HGb
    go_wp2_with (go_at_call 30; refine (narrow_any _ _ _ _ c0 c1).mono ?_; rintro e w' ⟨rfl, rfl⟩; rw [HNb.out, HNv.out])
    refine (varint_any V _ hV).mono ?_
    rintro e w6 ⟨v, rfl, hown, hb6⟩
    rw [HG.out] at hown
    obtain ⟨a6', cap6, hv6⟩ : ∃ a c, v = .slice a G.length c := by
      rcases hown.2 with ⟨e, e2⟩ | ⟨g, cap, cur, e, _⟩
      · exact ⟨none, 0, by rw [e, e2]⟩
      · exact ⟨_, _, e⟩
    rw [hv6]
    have HB6 : Hid (Below w.heap.size w w6) := HB4.out.trans (hb6.mono HS4)
    clear hown hb6 hv6
    cases nb
    · go_wp2_with (first
        | (go_at_call 26; refine (zig_any _ _ c0 c1).mono ?_; rintro e w' ⟨rfl, rfl⟩; rw [HZE.out])
        | (go_at_call 28; refine (zag_any _ _ hzb.1 hzb.2).mono ?_; rintro e w' ⟨rfl, rfl⟩; rw [HZ.out]))
      refine (awake_any _).mono ?_
      rintro e w7 ⟨rfl, hb7⟩
      have HB7 : Hid (Below w.heap.size w w7) := HB6.out.trans (hb7.mono HB6.out.size)
      clear hb7
      go_wp2_with fail
      go_ret
      exact ⟨rfl, HB7.out⟩
    · obtain ⟨n1, n2, n3⟩ := HNB2.out rfl
      have HN1 : Hid (widenI nv a6 a7 = a5) := n1
      clear n1
      go_wp2_with (first
        | (go_at_call 26; refine (zig_any _ _ c0 c1).mono ?_; rintro e w' ⟨rfl, rfl⟩; rw [HZE.out])
        | (go_at_call 28; refine (zag_any _ _ hzb.1 hzb.2).mono ?_; rintro e w' ⟨rfl, rfl⟩; rw [HZ.out])
        | (go_at_call 32; refine (widen_any _ _ _ _ n2 n3).mono ?_; rintro e w' ⟨rfl, rfl⟩; rw [HN1.out]))
      refine (awake_any _).mono ?_
      rintro e w7 ⟨rfl, hb7⟩
      have HB7 : Hid (Below w.heap.size w w7) := HB6.out.trans (hb7.mono HB6.out.size)
      clear hb7
      go_wp2_with fail
      go_ret
      exact ⟨rfl, HB7.out⟩
  · subst h8
    have hgl := HGP.out hf
    have hx : V % 256 ^ (8 : Int).toNat = V := by rw [show (8 : Int).toNat = 8 by decide, Nat.mod_eq_of_lt (by omega)]
    have hll : ((l0.length : Int) != (l0.length : Int)) = false := by simp
    rw [hx] at hgl
    have HL1 : Hid (l1.length = l0.length) := hgl.2
    have HX : Hid (getI l1 a1 8 a3 = (V : Int)) := hgl.1
    rw [hf, HL1.out] at hput
    have HF : Hid (fitsB l0.length a1 8 = true) := hf
    clear hgl hx hf HGP
    go_enter Try.func7, Try.ntmps7
    go_wp2_with fail
    refine hput.mono ?_
    rintro e w1 ⟨⟨a', cap', rfl, hrow⟩, hb1⟩
    have HB1 : Hid (Below w.heap.size w w1) := hb1
    have HS1 := hb1.size
    clear hput hb1
    go_wp2_with fail
    have hget := get_any a' cap' l1 a1 8 a3 w1 hrow (by rw [HL1.out]; exact m0)
    rw [HL1.out, HX.out, HF.out] at hget
    refine hget.mono ?_
    rintro e w2 ⟨rfl, he2⟩
    subst he2
    clear hget hrow
    go_wp2_with fail
    refine (varint_any V _ hV).mono ?_
    rintro e w3 ⟨v, rfl, hown, hb3⟩
    rw [HG.out] at hown
    go_wp2_with (at_builtin; refine wpList_append_own _ rfl _ _ 22 rfl w2.heap.size 5 i0 (.int .u8 0) 1 1 Try.underlying22 hi hz0 hz1 hz2 rfl (by decide) _ _ _ rfl (hown.alloc _) ⟨w3.heap.size, 0, none⟩ 1 1 (cv [129]) rfl rfl (one_cell rfl) (cv_one _) (by unfold maxLen; omega) (by omega) (by have := hb3.size; simp; omega) ?_; intro v' w4 hown' hgrow hnil; have R := own_step hown hb3 hb3.size hown' hgrow; clear hown' hgrow hnil hown)
    obtain ⟨a4, cap4, rfl, hrow4, hm4⟩ := owns_row R.1 HGb.out
    have HB4 : Hid (Below w.heap.size w w4) := HB1.out.trans (R.2.mono HS1)
    have HS4 : w.heap.size ≤ w4.heap.size := HB4.out.size
    clear R
    refine (unv_any a4 cap4 (G ++ [129]) w4 hrow4 hm4).mono ?_
    rintro e w5 ⟨rfl, rfl⟩
    rw [HU.out]
    clear hrow4 hm4 hb3 HGb
    go_wp2_with (go_at_call 30; refine (narrow_any _ _ _ _ c0 c1).mono ?_; rintro e w' ⟨rfl, rfl⟩; rw [HNb.out, HNv.out])
    refine (varint_any V _ hV).mono ?_
    rintro e w6 ⟨v, rfl, hown, hb6⟩
    rw [HG.out] at hown
    obtain ⟨a6', cap6, hv6⟩ : ∃ a c, v = .slice a G.length c := by
      rcases hown.2 with ⟨e, e2⟩ | ⟨g, cap, cur, e, _⟩
      · exact ⟨none, 0, by rw [e, e2]⟩
      · exact ⟨_, _, e⟩
    rw [hv6]
    have HB6 : Hid (Below w.heap.size w w6) := HB4.out.trans (hb6.mono HS4)
    clear hown hb6 hv6
    cases nb
    · go_wp2_with (first
        | (go_at_call 26; refine (zig_any _ _ c0 c1).mono ?_; rintro e w' ⟨rfl, rfl⟩; rw [HZE.out])
        | (go_at_call 28; refine (zag_any _ _ hzb.1 hzb.2).mono ?_; rintro e w' ⟨rfl, rfl⟩; rw [HZ.out]))
      refine (awake_any _).mono ?_
      rintro e w7 ⟨rfl, hb7⟩
      have HB7 : Hid (Below w.heap.size w w7) := HB6.out.trans (hb7.mono HB6.out.size)
      clear hb7
      go_wp2_with fail
      go_ret
      exact ⟨rfl, HB7.out⟩
    · obtain ⟨n1, n2, n3⟩ := HNB2.out rfl
      have HN1 : Hid (widenI nv a6 a7 = a5) := n1
      clear n1
      go_wp2_with (first
        | (go_at_call 26; refine (zig_any _ _ c0 c1).mono ?_; rintro e w' ⟨rfl, rfl⟩; rw [HZE.out])
        | (go_at_call 28; refine (zag_any _ _ hzb.1 hzb.2).mono ?_; rintro e w' ⟨rfl, rfl⟩; rw [HZ.out])
        | (go_at_call 32; refine (widen_any _ _ _ _ n2 n3).mono ?_; rintro e w' ⟨rfl, rfl⟩; rw [HN1.out]))
      refine (awake_any _).mono ?_
      rintro e w7 ⟨rfl, hb7⟩
      have HB7 : Hid (Below w.heap.size w w7) := HB6.out.trans (hb7.mono HB6.out.size)
      clear hb7
      go_wp2_with fail
      go_ret
      exact ⟨rfl, HB7.out⟩
end Go.Proofs.Ytffnhmccoacglaa
