/- The document's own Encode, every record; the walk of RecordEncodes. -/
import Derived.Test.YtgpeldmplkijlaaDoorEr
import Derived.Test.YtgpeldmplkijlaaDoorLw
namespace Go.Proofs.YtgpeldmplkijlaaDoor
set_option linter.unusedSimpArgs false
set_option linter.unusedVariables false
open Go.RowKit
theorem rvarint_makes (V : Nat) (h : V ≤ 18446744073709551615) : Makes 68 #[.int .u64 V] (groups V) := fun w' => by
  refine (rvarint_any V w' h).mono ?_
  rintro e w2 ⟨v, rfl, hown, hb⟩
  obtain ⟨a, c, rfl, hr, hn⟩ := owns_sl hown (groups_lt V h)
  exact ⟨a, c, rfl, hr, hn, hb⟩
set_option maxRecDepth 100000 in
theorem rencode_any (r : Rc) (first : Int) (w : World) :
    Calls Tryd.prog 50 #[.agg r.cells, .int .i64 first] w fun e w' => ∃ v, e = .returned (.tuple #[v, .int .i64 (encE r first)]) ∧ w'.ownsRow w.heap.size 5 1 v (encR r first).length (cv (encR r first)) ∧ Below w.heap.size w w' := by
  have HC : Hid _ := rcheck_any r
  by_cases hc : chk r = 0
  · rw [hc] at HC
    by_cases ht : timeB first = true
    · have hE : encE r first = 0 := by simp [encE, hc, ht]
      have hR : encR r first = encL r first := by simp [encR, hE]
      obtain ⟨t0, t1, o0, o1, k1, v1, _, _⟩ := chk_ok hc
      obtain ⟨f0, f1⟩ := (time_iff first).1 ht
      rw [hE, hR]
      obtain ⟨on, hon⟩ := Int.eq_ofNat_of_zero_le o0
      have hz := zig_bd (r.t - first) (by omega) (by omega)
      obtain ⟨zn, hzn⟩ := Int.eq_ofNat_of_zero_le hz.1
      have HZ : Hid _ := fun w' => rzig_any (r.t - first) w' (by omega) (by omega)
      have HL : Hid (encL r first = headN r :: (groups on ++ (groups zn ++ (textL r.hk r.k ++ textL r.hv r.v)))) := by
        show _ = _
        unfold encL
        rw [hon, hzn]
        rfl
      generalize encL r first = L at *
      obtain ⟨hk, k, hv, v, t, o⟩ := r
      simp only at *
      subst hon
      rw [hzn] at HZ
      have w1 : IntKind.u64.wrap (on : Int) = (on : Int) := by rw [IntKind.wrap_u64]; omega
      have w2 : IntKind.i64.wrap (t - first) = t - first := by rw [IntKind.wrap_i64]; omega
      have w3 : IntKind.u64.wrap (k.size : Int) = (k.size : Int) := by rw [IntKind.wrap_u64]; omega
      have w4 : IntKind.u64.wrap (v.size : Int) = (v.size : Int) := by rw [IntKind.wrap_u64]; omega
      cases hk <;> cases hv
      · exact renc_ff k v t on first w k1 v1 f0 f1 zn _ _ _ _ HC (rvarint_makes on (by omega)) HZ (rvarint_makes zn (by omega)) (rvarint_makes k.size (by omega)) (rvarint_makes v.size (by omega)) (groups_len _).2 (groups_len _).2 (groups_len _).2 (groups_len _).2 w1 w2 w3 w4 L (by rw [HL.out]; rfl)
      · exact renc_ft k v t on first w k1 v1 f0 f1 zn _ _ _ _ HC (rvarint_makes on (by omega)) HZ (rvarint_makes zn (by omega)) (rvarint_makes k.size (by omega)) (rvarint_makes v.size (by omega)) (groups_len _).2 (groups_len _).2 (groups_len _).2 (groups_len _).2 w1 w2 w3 w4 L (by rw [HL.out]; rfl)
      · exact renc_tf k v t on first w k1 v1 f0 f1 zn _ _ _ _ HC (rvarint_makes on (by omega)) HZ (rvarint_makes zn (by omega)) (rvarint_makes k.size (by omega)) (rvarint_makes v.size (by omega)) (groups_len _).2 (groups_len _).2 (groups_len _).2 (groups_len _).2 w1 w2 w3 w4 L (by rw [HL.out]; rfl)
      · exact renc_tt k v t on first w k1 v1 f0 f1 zn _ _ _ _ HC (rvarint_makes on (by omega)) HZ (rvarint_makes zn (by omega)) (rvarint_makes k.size (by omega)) (rvarint_makes v.size (by omega)) (groups_len _).2 (groups_len _).2 (groups_len _).2 (groups_len _).2 w1 w2 w3 w4 L (by rw [HL.out]; rfl)
    · have ht' : timeB first = false := by simpa using ht
      have hE : encE r first = 1 := by simp [encE, hc, ht']
      have hR : encR r first = [] := by simp [encR, hE]
      rw [hE, hR]
      have hq : first < 0 ∨ 1125899906842624 < first := by
        have : ¬ (0 ≤ first ∧ first ≤ 1125899906842624) := fun c => ht ((time_iff first).2 c)
        omega
      obtain ⟨hk, k, hv, v, t, o⟩ := r
      simp only [Rc.cells] at HC ⊢
      clear hE hR hc ht ht'
      rcases hq with hq | hq
      · go_enter Tryd.func50, Tryd.ntmps50
        go_wp2_with (go_at_call 36; refine (HC.out _).mono ?_; rintro e w1 ⟨rfl, hb1⟩)
        go_ret2
        exact ⟨_, rfl, World.ownsRow_nil _ _ _ _, (below_box _).trans (hb1.mono (by simp))⟩
      · have hq2 : ¬ first < 0 := by omega
        go_enter Tryd.func50, Tryd.ntmps50
        go_wp2_with (go_at_call 36; refine (HC.out _).mono ?_; rintro e w1 ⟨rfl, hb1⟩)
        go_ret2
        exact ⟨_, rfl, World.ownsRow_nil _ _ _ _, (below_box _).trans (hb1.mono (by simp))⟩
  · have hE : encE r first = chk r := by simp [encE, hc]
    have hR : encR r first = [] := by simp [encR, hE, hc]
    rw [hE, hR]
    have hne : (chk r != 0) = true := by simpa using hc
    obtain ⟨hk, k, hv, v, t, o⟩ := r
    generalize chk ⟨hk, k, hv, v, t, o⟩ = c at *
    simp only [Rc.cells] at HC ⊢
    clear hE hR hc
    go_enter Tryd.func50, Tryd.ntmps50
    go_wp2_with (go_at_call 36; refine (HC.out _).mono ?_; rintro e w1 ⟨rfl, hb1⟩)
    go_ret2
    exact ⟨_, rfl, World.ownsRow_nil _ _ _ _, (below_box _).trans (hb1.mono (by simp))⟩
end Go.Proofs.YtgpeldmplkijlaaDoor
