/- Bytes and strings; bytes that may be appended to. -/
import Derived.Test.YtaooidckmepdeaaDoorMem
import Derived.Laws.BytesArg
import Derived.Laws.Rows
import Derived.Laws.Tables
import Derived.ArgAppend
import Derived.Laws.AppendOwnNone
namespace Go.Proofs.YtaooidckmepdeaaDoor
set_option linter.unusedSimpArgs false
set_option linter.unusedVariables false
open Go.RowKit
theorem own_le {B B' : Nat} {w : World} {g cap : Nat} {l : List Nat} (h : Own B w g cap l) (hb : B' ≤ B) : Own B' w g cap l :=
  ⟨h.1, h.2.elim Or.inl (fun ⟨g, cap, cur, hv, hg, r⟩ => Or.inr ⟨g, cap, cur, hv, Nat.le_trans hb hg, r⟩)⟩
/-- Bytes that may be appended to: those of the call's own, or such as have no room behind them. -/
def Buf (B : Nat) (w : World) (g cap : Nat) (l : List Nat) : Prop := Own B w g cap l ∨ (Row w (some ⟨g, 0, none⟩) l ∧ cap = l.length)
theorem Buf.row {B : Nat} {w : World} {g cap : Nat} {l : List Nat} (h : Buf B w g cap l) (hb : ∀ i, l.getD i 0 < 256) : Row w (some ⟨g, 0, none⟩) l := by
  rcases h with h | h
  · exact h.row hb
  · exact h.1
theorem Buf.below {B : Nat} {w w' : World} {g cap : Nat} {l : List Nat} (h : Buf B w g cap l) (hb : Below w.heap.size w w') : Buf B w' g cap l := by
  rcases h with h | h
  · exact .inl (h.below hb)
  · exact .inr ⟨h.1.below hb, h.2⟩
theorem buf_append {B : Nat} {w0 w : World} {g cap : Nat} {l : List Nat} (h : Buf B w g cap l) (hb : ∀ i, l.getD i 0 < 256) (h0 : 0 < l.length) (hB : Below B w0 w) (hBs : B ≤ w.heap.size)
    (ad : Addr) (m c : Nat) (hm0 : 0 < m) (news : List Nat) (hm : news.length = m) (hn : ∀ j u, (cv news)[j]? = some u → w.cell? (ad.add j) = some u) (h6 : l.length + m ≤ 1000000) (ty : TypeId) :
    ∃ g' cap' w', (Builtin.append_ #[29, 29] ty #[.slice (some ⟨g, 0, none⟩) l.length cap, .slice (some ad) m c]).run Tryd.prog w = .ok (.slice (some ⟨g', 0, none⟩) (l.length + m) cap') w' ∧ Own B w' g' cap' (l ++ news) ∧ Below B w0 w' := by
  obtain ⟨i0, hi, hz0, hz1, hz2⟩ := info_parts Tryd.info5
  subst hm
  have hl : (cv l ++ cv news) = cv (l ++ news) := (cv_append l news).symm
  have hll : l.length + news.length = (l ++ news).length := by simp
  rcases h with h | ⟨hr, hc⟩
  · obtain ⟨v', w', e, ho, hg, _⟩ := run_append_own (P := Tryd.prog) w B 29 ty 5 i0 (.int .u8 0) 1 1 Tryd.underlying29 hi hz0 hz1 hz2 rfl (by decide) (.slice (some ⟨g, 0, none⟩) l.length cap) l.length (cv l) h ad news.length c (cv news) (by rw [cv_length]; omega) hn (cv_one _) (by unfold maxLen; omega) (by omega) hBs
    rw [hl, hll] at ho
    obtain ⟨g', cap', rfl, ho2⟩ := owns_some ho (by rw [← hll]; omega)
    rw [← hll] at e
    exact ⟨g', cap', w', e, ho2, own_bel h hB hBs hg⟩
  · obtain ⟨v', w', e, ho, hg⟩ := run_append_arg_grows (P := Tryd.prog) w 29 ty 5 i0 (.int .u8 0) 1 1 Tryd.underlying29 hi hz0 hz1 hz2 rfl (by decide) ⟨g, 0, none⟩ l.length cap (cv l) (by rw [cv_length]; omega) (row_news hr) ad news.length c (cv news) (by rw [cv_length]; omega) hn (by omega) (by unfold maxLen; omega) (by omega)
    rw [hl, hll] at ho
    obtain ⟨g', cap', rfl, ho2⟩ := owns_some ho (by rw [← hll]; omega)
    rw [← hll] at e
    exact ⟨g', cap', w', e, own_le ho2 hBs, hB.grown hg hBs (fun k hk => by cases hk)⟩
theorem wp_append_run {P : Program} {w w' : World} {o : Oper} {a : Act} {K : Act → World → Prop} {Q : Exit → Act → World → Prop} (s x : Operand) (t : TypeId)
    (ho : o.op = .call { callee := .builtin .append, args := #[s, x], argTypes := #[t, t] }) (v xv v' : Value) (hs : a.eval s = v) (hx : a.eval x = xv)
    (hr : (Builtin.append_ #[t, t] o.type #[v, xv]).run P w = .ok v' w') (h : K (a.put o.dst v') w') : o.wp P a w K Q := by
  unfold Oper.wp execOp
  simp only [ho, resolve, invoke, builtin, Sem.run_bind, Sem.run_pure, Result.andThen_ok, List.map_toArray, List.map_cons, List.map_nil, hs, hx, hr]
  exact h
def strN (l : List Nat) : ByteArray := strOfNums (l.map fun (c : Nat) => (c : Int))
theorem conv_row {w : World} {a : Option Addr} {l : List Nat} (cap : Nat) (hr : Row w a l) : (convert 29 9 (.slice a l.length cap)).run Tryd.prog w = .ok (.string (strN l)) w := by
  by_cases h0 : 0 < l.length
  · obtain ⟨b, off, rfl, _, _⟩ := hr 0 h0
    refine run_convert_bytes_arg (P := Tryd.prog) w 29 5 Tryd.underlying29 Tryd.underlying5 b off l.length cap (l.map fun (c : Nat) => (c : Int)) (by simp) ?_ 9 Tryd.underlying9
    intro i hi
    obtain ⟨b', off', e, hc, _⟩ := hr i hi
    simp only [Option.some.injEq, Addr.mk.injEq, and_true] at e
    obtain ⟨rfl, rfl⟩ := e
    rw [hc]
    simp [List.getD, hi]
  · obtain rfl : l = [] := List.eq_nil_of_length_eq_zero (by omega)
    rw [run_convert_bytes_string w 29 9 5 _ _ cap Tryd.underlying29 Tryd.underlying5 Tryd.underlying9]
    cases a <;> simp [Conv.bytesToString, loadCells, strN, strOfNums]
    all_goals rfl
theorem str_eq (l m : List Nat) (hl : ∀ x, x ∈ l → x < 256) (hm : ∀ x, x ∈ m → x < 256) : ((strN l).toList == (strN m).toList) = decide (l = m) := by
  rw [ByteArray.toList_eq, ByteArray.toList_eq]
  unfold strN
  rw [strOfNums_data, strOfNums_data, List.map_map, List.map_map]
  have inj : ∀ l m : List Nat, (∀ x, x ∈ l → x < 256) → (∀ x, x ∈ m → x < 256) → l.map ((fun n : Int => UInt8.ofNat n.toNat) ∘ fun (c : Nat) => (c : Int)) = m.map ((fun n : Int => UInt8.ofNat n.toNat) ∘ fun (c : Nat) => (c : Int)) → l = m := by
    intro l
    induction l with
    | nil => intro m _ _ h; cases m with
      | nil => rfl
      | cons y s => simp at h
    | cons x r ih =>
      intro m hl hm h
      cases m with
      | nil => simp at h
      | cons y s =>
        simp only [List.map_cons, List.cons.injEq] at h
        have hx := hl x (by simp)
        have hy := hm y (by simp)
        have e : x = y := by
          have := congrArg UInt8.toNat h.1
          simp only [Function.comp, Int.toNat_natCast, UInt8.toNat_ofNat'] at this
          omega
        rw [e, ih s (fun z hz => hl z (by simp [hz])) (fun z hz => hm z (by simp [hz])) h.2]
  by_cases h : l = m
  · rw [decide_eq_true h, h]; simp
  · rw [decide_eq_false h]
    apply beq_false_of_ne
    intro c
    exact h (inj l m hl hm c)
end Go.Proofs.YtaooidckmepdeaaDoor
