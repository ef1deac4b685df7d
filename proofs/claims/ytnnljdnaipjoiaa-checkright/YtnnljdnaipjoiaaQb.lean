/- Rows of bytes by their lengths alone; the document's Varint and Lay. -/
import Derived.Test.YtnnljdnaipjoiaaQa
import Derived.BigFrame
import Derived.Laws.AppendOwnNone
import Derived.Lib.AppendStr
namespace Go.Proofs.Ytnnljdnaipjoiaa
set_option linter.unusedSimpArgs false
set_option linter.unusedVariables false
open Go.RowKit
/-- n bytes in a row of the call's own. -/
def BR (B : Nat) (w : World) (a : Option Addr) (n c : Nat) : Prop := ∃ l : List Nat, l.length = n ∧ (∀ i, l.getD i 0 < 256) ∧ w.ownsRow B 5 1 (.slice a n c) n (cv l)
theorem own_keep {B B' e size n : Nat} {w w' : World} {v : Value} {xs : List Value} (h : w.ownsRow B e size v n xs) (hb : Below w.heap.size w w') (hB : B' ≤ B) : w'.ownsRow B' e size v n xs := by
  refine ⟨h.1, ?_⟩
  rcases h.2 with q | ⟨g, cap, cur, e1, hB1, hg, r⟩
  · exact .inl q
  · exact .inr ⟨g, cap, cur, e1, Nat.le_trans hB hB1, (hb.block g (Array.getElem?_eq_some_iff.1 hg).1).trans hg, r⟩
theorem BR.keep {B B' : Nat} {w w' : World} {a : Option Addr} {n c : Nat} (h : BR B w a n c) (hb : Below w.heap.size w w') (hB : B' ≤ B) : BR B' w' a n c := by
  obtain ⟨l, h1, h2, h3⟩ := h
  exact ⟨l, h1, h2, own_keep h3 hb hB⟩
theorem BR.below {B : Nat} {w w' : World} {a : Option Addr} {n c : Nat} (h : BR B w a n c) (hb : Below w.heap.size w w') : BR B w' a n c := h.keep hb (Nat.le_refl _)
theorem BR.nil (B : Nat) (w : World) : BR B w none 0 0 := ⟨[], rfl, fun i => by simp, ⟨rfl, .inl ⟨rfl, rfl⟩⟩⟩
theorem BR.one (y : World) (B : Nat) (x : Int) (h0 : 0 ≤ x) (h1 : x < 256) (hB : B ≤ y.heap.size) : BR B (y.alloc (.cells #[.int .u8 x] 5)) (some ⟨y.heap.size, 0, none⟩) 1 1 := by
  obtain ⟨c, rfl⟩ := Int.eq_ofNat_of_zero_le h0
  refine ⟨[c], rfl, fun i => ?_, rfl, .inr ⟨y.heap.size, 1, #[.int .u8 (c : Int)], rfl, hB, heap_alloc_new y _, Nat.le_refl _, by decide, rfl, rfl⟩⟩
  cases i with
  | zero => simp; omega
  | succ i => simp
theorem BR.form {B : Nat} {w : World} {v : Value} {l : List Nat} (h : w.ownsRow B 5 1 v l.length (cv l)) (hl : ∀ i, l.getD i 0 < 256) : ∃ a c, v = .slice a l.length c ∧ BR B w a l.length c := by
  rcases h.2 with ⟨rfl, e⟩ | ⟨g, cap, cur, rfl, r⟩
  · exact ⟨none, 0, by rw [e], l, rfl, hl, h.1, .inl ⟨by rw [e], e⟩⟩
  · exact ⟨_, cap, rfl, l, rfl, hl, h⟩
theorem BR.row {B : Nat} {w : World} {a : Option Addr} {n c : Nat} (h : BR B w a n c) : ∃ l : List Nat, l.length = n ∧ Row w a l ∧ (a = none → c = 0) ∧ n ≤ maxLen := by
  obtain ⟨l, rfl, h2, h3⟩ := h
  obtain ⟨a', c', e, hr, hm⟩ := owns_row h3 h2
  simp only [Value.slice.injEq] at e
  obtain ⟨rfl, _, rfl⟩ := e
  refine ⟨l, rfl, hr, fun e => ?_, hm⟩
  subst e
  rcases h3.2 with ⟨q, _⟩ | ⟨g, cap, cur, q, _⟩
  · simp only [Value.slice.injEq] at q; exact q.2.2
  · simp at q
theorem cat_lt {l m : List Nat} (h1 : ∀ i, l.getD i 0 < 256) (h2 : ∀ i, m.getD i 0 < 256) : ∀ i, (l ++ m).getD i 0 < 256 := by
  intro i
  by_cases e : i < l.length
  · have := h1 i
    simp only [List.getD, List.getElem?_append_left e] at this ⊢
    exact this
  · have := h2 (i - l.length)
    simp only [List.getD, List.getElem?_append_right (Nat.le_of_not_lt e)] at this ⊢
    exact this
theorem run_app_bytes {w : World} (B ty : Nat) (a : Option Addr) (n c : Nat) (hown : BR B w a n c) (hBs : B ≤ w.heap.size) {B2 : Nat} (a2 : Option Addr) (m c2 : Nat) (hr : BR B2 w a2 m c2) (h63 : n + m ≤ 100000) :
    ∃ a' c' w', (Builtin.append_ #[44, 44] ty #[.slice a n c, .slice a2 m c2]).run Try.prog w = .ok (.slice a' (n + m) c') w' ∧ BR B w' a' (n + m) c' ∧ w.grownBy w' (Value.slice a n c).ownBlock := by
  obtain ⟨i0, hi, hz0, hz1, hz2⟩ := info_parts Try.info5
  obtain ⟨l, rfl, hl1, hl2⟩ := hown
  obtain ⟨l2, rfl, hq1, hq2⟩ := hr
  obtain ⟨a3, c3, e3, hrow, _⟩ := owns_row hq2 hq1
  simp only [Value.slice.injEq] at e3
  obtain ⟨rfl, _, rfl⟩ := e3
  cases a2 with
  | none =>
    obtain rfl := row_none hrow
    obtain rfl : c2 = 0 := by
      rcases hq2.2 with ⟨q, _⟩ | ⟨g, cap, cur, q, _⟩
      · simp only [Value.slice.injEq] at q; exact q.2.2
      · simp at q
    exact ⟨a, c, w, run_append_owned_none (P := Try.prog) (w := w) B 44 ty 5 i0 1 Try.underlying44 hi _ l.length (cv l) hl2, ⟨l, rfl, hl1, hl2⟩, World.grownBy.refl _ _⟩
  | some ad =>
    obtain ⟨v', w', h1, h2, h3, _⟩ := run_append_own (P := Try.prog) w B 44 ty 5 i0 _ 1 1 Try.underlying44 hi hz0 hz1 hz2 rfl (by decide) _ l.length (cv l) hl2 ad l2.length c2 (cv l2) (by rw [cv_length]; omega) (row_news hrow) (cv_one _) (by unfold maxLen; omega) (by omega) hBs
    rw [← cv_append, ← List.length_append] at h2
    obtain ⟨a', c', rfl, h4⟩ := BR.form h2 (cat_lt hl1 hq1)
    rw [List.length_append] at h1 h4
    exact ⟨a', c', w', h1, h4, h3⟩
theorem BR.lt {B : Nat} {w : World} {a : Option Addr} {n c : Nat} (h : BR B w a n c) : ∀ k, (Value.slice a n c).ownBlock = some k → B ≤ k := by
  obtain ⟨l, _, _, h3⟩ := h
  exact fun k hk => (h3.lt k hk).1
theorem wp_app_bytes {w : World} {o : Oper} {a : Act} {K : Act → World → Prop} {Q : Exit → Act → World → Prop} (s x : Operand)
    (ho : o.op = .call { callee := .builtin .append, args := #[s, x], argTypes := #[44, 44] }) (B : Nat) (w0 : World)
    (a1 : Option Addr) (n c : Nat) (hs : a.eval s = .slice a1 n c) (hown : BR B w a1 n c) (hB : Below B w0 w) (hBs : B ≤ w.heap.size)
    {B2 : Nat} (a2 : Option Addr) (m c2 : Nat) (hx : a.eval x = .slice a2 m c2) (hr : BR B2 w a2 m c2) (h63 : n + m ≤ 100000)
    (h : ∀ a' c' w', BR B w' a' (n + m) c' → Below B w0 w' → K (a.put o.dst (.slice a' (n + m) c')) w') : o.wp Try.prog a w K Q := by
  obtain ⟨a', c', w', h1, h2, h3⟩ := run_app_bytes B o.type a1 n c hown hBs a2 m c2 hr h63
  unfold Oper.wp execOp
  simp only [ho, resolve, invoke, builtin, Sem.run_bind, Sem.run_pure, Result.andThen_ok, List.map_toArray, List.map_cons, List.map_nil, hs, hx, h1]
  exact h a' c' w' h2 (hB.grown h3 hBs hown.lt)
theorem wpList_app_bytes {w : World} {ops : Array Oper} {rest : List Oper} {o : Oper} {a : Act} {Q : Exit → Act → World → Prop} (hw : Region.wanted o (yielded ops a.tmps) = true) (s x : Operand)
    (ho : o.op = .call { callee := .builtin .append, args := #[s, x], argTypes := #[44, 44] }) (B : Nat) (w0 : World)
    (a1 : Option Addr) (n c : Nat) (hs : a.eval s = .slice a1 n c) (hown : BR B w a1 n c) (hB : Below B w0 w) (hBs : B ≤ w.heap.size)
    {B2 : Nat} (a2 : Option Addr) (m c2 : Nat) (hx : a.eval x = .slice a2 m c2) (hr : BR B2 w a2 m c2) (h63 : n + m ≤ 100000)
    (h : ∀ a' c' w', BR B w' a' (n + m) c' → Below B w0 w' → wpList Try.prog ops Q rest (a.put o.dst (.slice a' (n + m) c')) w') : wpList Try.prog ops Q (o :: rest) a w := by
  refine BigFrame.wpList_want hw fun K hK => ?_
  exact wp_app_bytes s x ho B w0 a1 n c hs hown hB hBs a2 m c2 hx hr h63 fun a' c' w' q1 q2 => hK _ _ (h a' c' w' q1 q2)
def sb (s : ByteArray) : List Nat := s.data.toList.map (·.toNat)
theorem wp_app_text {w : World} {o : Oper} {a : Act} {K : Act → World → Prop} {Q : Exit → Act → World → Prop} (s x : Operand)
    (ho : o.op = .call { callee := .builtin .append, args := #[s, x], argTypes := #[44, 9] }) (B : Nat) (w0 : World)
    (a1 : Option Addr) (n c : Nat) (hs : a.eval s = .slice a1 n c) (hown : BR B w a1 n c) (hB : Below B w0 w) (hBs : B ≤ w.heap.size)
    (t : ByteArray) (hx : a.eval x = .string t) (h63 : n + t.size ≤ 100000)
    (h : ∀ a' c' w', BR B w' a' (n + t.size) c' → Below B w0 w' → K (a.put o.dst (.slice a' (n + t.size) c')) w') : o.wp Try.prog a w K Q := by
  obtain ⟨i0, hi, hz0, hz1, hz2⟩ := info_parts Try.info5
  obtain ⟨l, rfl, hl1, hl2⟩ := hown
  obtain ⟨v', w', hr, h2, h3, h4⟩ := Lib.run_append_own_string (P := Try.prog) w B 44 9 o.type 5 i0 Try.underlying44 Try.underlying9 hi hz0 hz1 hz2 _ l.length (cv l) hl2 t (by unfold maxLen; omega) (by omega) hBs
  obtain ⟨m, hm, hm2, hm3⟩ : ∃ m : List Nat, Lib.strCells t = cv m ∧ m.length = t.size ∧ ∀ i, m.getD i 0 < 256 := by
    refine ⟨sb t, by unfold Lib.strCells cv sb; simp, by unfold sb; simp, fun i => ?_⟩
    unfold sb
    by_cases e : i < t.data.toList.length
    · simp only [List.getD, List.getElem?_map, List.getElem?_eq_getElem e, Option.map_some, Option.getD_some]
      exact UInt8.toNat_lt _
    · simp only [List.getD, List.getElem?_map, List.getElem?_eq_none (Nat.le_of_not_lt e), Option.map_none, Option.getD_none]
      omega
  rw [hm, ← cv_append, ← hm2, ← List.length_append] at h2
  obtain ⟨a', c', rfl, h5⟩ := BR.form h2 (cat_lt hl1 hm3)
  rw [List.length_append, hm2] at h5 hr
  unfold Oper.wp execOp
  simp only [ho, resolve, invoke, builtin, Sem.run_bind, Sem.run_pure, Result.andThen_ok, List.map_toArray, List.map_cons, List.map_nil, hs, hx, hr]
  exact h a' c' w' h5 (hB.grown h3 hBs (fun k hk => (hl2.lt k hk).1))
/-- Some row of m bytes at most, new. -/
def Mk (m : Nat) (w : World) (e : Ending) (w2 : World) : Prop := ∃ a n c, e = .returned (.slice a n c) ∧ n ≤ m ∧ BR w.heap.size w2 a n c ∧ Below w.heap.size w w2
theorem u64_and127 (V : Nat) (h : V ≤ 18446744073709551615) : bits .and .u64 (V : Int) 127 = ((V % 128 : Nat) : Int) := by
  rw [u64_and _ _ (by omega) (by omega) (by omega) (by omega), show ((127 : Int).toNat) = 2 ^ 7 - 1 by decide, Nat.and_two_pow_sub_one_eq_mod]
  simp
set_option maxHeartbeats 400000 in
set_option maxRecDepth 100000 in
theorem varint_l (V0 : Nat) (w : World) (hV : V0 ≤ 18446744073709551615) : Calls Try.prog 62 #[.int .u64 V0] w fun e w' => Mk 11 w e w' := by
  have hu8 : ∀ x : Int, 0 ≤ IntKind.u8.wrap x ∧ IntKind.u8.wrap x < 256 := fun x => by rw [IntKind.wrap_u8]; omega
  go_enter Try.func62, Try.ntmps62
  go_wp2
  go_loopw [0, 3] (fun v b wr => ∃ (V n c : Nat) (a : Option Addr), v = .int .u64 V ∧ b = .slice a n c ∧ n ≤ 9 ∧ V ≤ 18446744073709551615 / 128 ^ n ∧ BR w.heap.size wr a n c ∧ Below w.heap.size w wr) (fun v _ _ => (intOf v).toNat)
  case atStart => exact ⟨V0, 0, 0, none, rfl, rfl, by omega, by simpa using hV, BR.nil _ _, Below.refl _ _⟩
  case round =>
    obtain ⟨V, n, c, a, rfl, rfl, hn, hVn, hown, hbel⟩ := hrel
    have hVb : V ≤ 18446744073709551615 := Nat.le_trans hVn (Nat.div_le_self _ _)
    have hsz := hbel.size
    by_cases h128 : 128 ≤ V
    · have hn8 : n ≤ 8 := by
        by_cases e : n = 9
        · subst e
          have : (18446744073709551615 : Nat) / 128 ^ 9 = 1 := by decide
          omega
        · omega
      have hN : V / 128 ≤ 18446744073709551615 / 128 ^ (n + 1) := by
        rw [Nat.pow_succ, ← Nat.div_div_eq_div_mul]
        exact Nat.div_le_div_right hVn
      have hand := u64_and127 V hVb
      have hor : 0 ≤ IntKind.u8.wrap (bits .or .u64 ((V % 128 : Nat) : Int) 128) ∧ IntKind.u8.wrap (bits .or .u64 ((V % 128 : Nat) : Int) 128) < 256 := hu8 _
      have HN : Hid (V / 128 ≤ 18446744073709551615 / 128 ^ (n + 1)) := hN
      clear hVn hN hV
      go_wp2_with (at_builtin; refine wpList_app_bytes (by rfl) _ _ rfl w.heap.size w _ _ _ rfl (hown.below (below_box _)) (hbel.alloc hsz _) (by simp; omega) _ _ _ rfl (BR.one wr 0 _ (hu8 _).1 (hu8 _).2 (Nat.zero_le _)) (by omega) ?_)
      intro a' c' w1 hR hB1
      clear hown hbel
      go_wp2
      exact ⟨⟨V / 128, n + 1, c', a', by go_num, rfl, by omega, HN.out, hR, hB1⟩, by simp [intOf]; omega⟩
    · have hv1 : ¬ 128 ≤ (V : Int) := by omega
      clear hVn hV
      go_wp2_with (at_builtin; refine wpList_app_bytes (by rfl) _ _ rfl w.heap.size w _ _ _ rfl (hown.below (below_box _)) (hbel.alloc hsz _) (by simp; omega) _ _ _ rfl (BR.one wr 0 _ (by omega) (by omega) (Nat.zero_le _)) (by omega) ?_)
      intro a' c' w1 hR hB1
      clear hown hbel
      go_wp2
      go_ret
      exact ⟨a', n + 1, c', rfl, by omega, hR, hB1⟩
set_option maxHeartbeats 800000 in
set_option maxRecDepth 100000 in
theorem lay_l (a0 : Option Addr) (n0 c0 : Nat) (n V : Nat) (w w0 : World) (B : Nat) (hown : BR B w a0 n0 c0) (hB : Below B w0 w) (hB0 : B ≤ w0.heap.size) (hl : n0 ≤ 1000) (hn : n ≤ 8) (hV : V ≤ 18446744073709551615) :
    Calls Try.prog 57 #[.slice a0 n0 c0, .int .i64 n, .int .u64 V] w fun e w' => ∃ a c, e = .returned (.slice a (n0 + n) c) ∧ BR B w' a (n0 + n) c ∧ Below B w0 w' := by
  have hu8 : ∀ x : Int, 0 ≤ IntKind.u8.wrap x ∧ IntKind.u8.wrap x < 256 := fun x => by rw [IntKind.wrap_u8]; omega
  go_enter Try.func57, Try.ntmps57
  go_wp2_with fail
  go_loopw [0, 7] (fun p i wr => ∃ (k c : Nat) (a : Option Addr), k ≤ n ∧ i = .int .i64 ((n : Int) - 1 - k) ∧ p = .slice a (n0 + k) c ∧ BR B wr a (n0 + k) c ∧ Below B w0 wr) (fun _ i _ => (intOf i + 1).toNat)
  case atStart => exact ⟨0, c0, a0, by omega, by go_num, rfl, hown, hB⟩
  case round =>
    clear hown hB
    obtain ⟨k, c, a, hk, rfl, rfl, hown, hB⟩ := hrel
    have hBs : B ≤ wr.heap.size := Nat.le_trans hB0 hB.size
    by_cases hlt : k < n
    · obtain ⟨j, HJ⟩ : ∃ j, Hid (n - 1 - k = j) := ⟨_, rfl⟩
      have hj : (n : Int) - 1 - k = (j : Int) := by have := HJ.out; omega
      have hj8 : j < 8 := by have := HJ.out; omega
      have hjn : j < n := by have := HJ.out; omega
      rw [hj]
      have x1 : IntKind.i64.wrap (8 * (j : Int)) = 8 * (j : Int) := by rw [IntKind.wrap_i64]; omega
      have x3 : (0 : Int) ≤ 8 * (j : Int) := by omega
      have x4 : 8 * (j : Int) ≤ 64 := by omega
      have x5 : (8 * (j : Int)).toNat = 8 * j := by omega
      obtain ⟨d, hd0⟩ : ∃ d : Nat, IntKind.u8.wrap ((V : Int) / 2 ^ (8 * j)) = (d : Int) := ⟨_, (Int.toNat_of_nonneg (hu8 _).1).symm⟩
      have hd1 : d < 256 := by have := (hu8 ((V : Int) / 2 ^ (8 * j))).2; omega
      have HJI : Hid ((n : Int) - 1 - ((k + 1 : Nat) : Int) = (j : Int) - 1) := by have := HJ.out; show _ = _; omega
      clear hj
      go_wp2_with (at_builtin; refine wpList_app_bytes (by rfl) _ _ rfl B w0 _ _ _ rfl (hown.below (below_box _)) (hB.alloc hBs _) (by simp; omega) _ _ _ rfl (BR.one wr 0 _ (by omega) (by omega) (Nat.zero_le _)) (by omega) ?_; intro a' c' w2 hR hB2)
      exact ⟨⟨k + 1, c', a', by omega, by rw [HJI.out], rfl, hR, hB2⟩, by simp [intOf]⟩
    · obtain rfl : k = n := by omega
      have hlt2 : ¬ (0 : Int) ≤ (k : Int) - 1 - k := by omega
      go_wp2_with fail
      go_ret
      exact ⟨a, c, rfl, hown, hB⟩
end Go.Proofs.Ytnnljdnaipjoiaa
