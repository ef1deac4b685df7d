/- New, same, Wrap. -/
import Derived.Test.YthbomgjjdmogpaaFd
import Derived.Test.YthbomgjjdmogpaaBt
namespace Go.Proofs.Ythbomgjjdmogpaa
set_option linter.unusedSimpArgs false
set_option linter.unusedVariables false
open Go.RowKit
theorem new_any (w : World) : Calls Try.prog 11 #[] w fun e w' => e = .returned (.pointer (some ⟨w.heap.size, 0, none⟩)) ∧ w' = w.alloc (.cells (zc false) 37) := by
  go_enter Try.func11, Try.ntmps11
  go_wp2_with fail
  go_ret
  exact ⟨rfl, rfl⟩
/-- Two rows of frames alike. -/
theorem same_any (a : Option Addr) (capa : Nat) (fs : List Fr) (b : Option Addr) (capb : Nat) (gs : List Fr) (w : World) (ha : FCells w a fs) (hb : FCells w b gs) (hfa : ∀ f, f ∈ fs → Row w f.a f.b ∧ f.b.length ≤ maxLen) (hga : ∀ f, f ∈ gs → Row w f.a f.b ∧ f.b.length ≤ maxLen) (hl : fs.length ≤ maxLen) (hm : gs.length ≤ maxLen) :
    Calls Try.prog 14 #[.slice a fs.length capa, .slice b gs.length capb] w fun e w' => e = .returned (.bool (decide (fs.map (·.b) = gs.map (·.b)))) ∧ ∃ n, w' = w.drewN n := by
  unfold maxLen at hl hm
  by_cases hlen : fs.length = gs.length
  · have hne : ((fs.length : Int) != (gs.length : Int)) = false := by simp [hlen]
    have HL : Hid (fs.length = gs.length) := hlen
    clear hlen
    go_enter Try.func14, Try.ntmps14
    go_wp2_with fail
    go_loopw [5] (fun i wr => ∃ k n : Nat, k ≤ fs.length ∧ i = .int .i64 k ∧ wr = w.drewN n ∧ ∀ j, j < k → (fs.getD j frz).b = (gs.getD j frz).b) (fun i _ => fs.length - (iof i).toNat)
    case atStart => exact ⟨0, 0, by omega, rfl, rfl, by intro j hj; omega⟩
    case round =>
      obtain ⟨k, n, hk, rfl, rfl, hsame⟩ := hrel
      have HS : Hid (∀ j, j < k → (fs.getD j frz).b = (gs.getD j frz).b) := hsame
      clear hsame
      by_cases hlt : k < fs.length
      · obtain ⟨b1, o1, rfl, c1⟩ := ha k hlt
        have hltm : k < gs.length := by rw [← HL.out]; exact hlt
        obtain ⟨b2, o2, rfl, c2⟩ := hb k hltm
        have m1 : fs.getD k frz ∈ fs := by simp only [List.getD, List.getElem?_eq_getElem hlt, Option.getD_some]; exact List.getElem_mem hlt
        have m2 : gs.getD k frz ∈ gs := by simp only [List.getD, List.getElem?_eq_getElem hltm, Option.getD_some]; exact List.getElem_mem hltm
        have HQ : Hid ((fs.getD k frz).b = (gs.getD k frz).b → ∀ j, j < k + 1 → (fs.getD j frz).b = (gs.getD j frz).b) := by
          intro e j hj
          by_cases hjk : j = k
          · subst hjk; exact e
          · exact HS.out j (by omega)
        have HD : Hid ((fs.getD k frz).b ≠ (gs.getD k frz).b → fs.map (·.b) ≠ gs.map (·.b)) := by
          intro e c
          have h2 := congrArg (fun z : List (List Nat) => z[k]?) c
          simp only [List.getElem?_map, List.getElem?_eq_getElem hlt, List.getElem?_eq_getElem hltm, Option.map_some, Option.some.injEq] at h2
          apply e
          simpa [List.getD, hlt, hltm] using h2
        have HR1 : Hid _ := hfa _ m1
        have HR2 : Hid _ := hga _ m2
        clear ha hb hfa hga m1 m2
        have hltI : (k : Int) < (fs.length : Int) := by omega
        have hltJ : (k : Int) < (gs.length : Int) := by omega
        generalize fs.getD k frz = f at *
        generalize gs.getD k frz = g at *
        obtain ⟨fa, fc, fb⟩ := f
        obtain ⟨ga, gc, gb⟩ := g
        simp only [Fr.v] at c1 c2 HR1 HR2 HQ HD
        have HBY : Hid (∀ x : Nat, Calls Try.prog 18 #[.slice fa fb.length fc, .slice ga gb.length gc] ((w.drewN n).drewN x) fun e w' => e = .returned (.bool (decide (fb = gb))) ∧ ∃ y, w' = (w.drewN n).drewN y) := fun x => (bytes_any fa fc fb ga gc gb _ ((HR1.out.1.drewN n).drewN x) ((HR2.out.1.drewN n).drewN x) HR1.out.2 HR2.out.2).mono (by rintro e w' ⟨rfl, y, rfl⟩; exact ⟨rfl, x + y, World.drewN_drewN _ _ _⟩)
        have d1 : (w.drewN n).cell? ⟨b1, o1 + k, none⟩ = some (.slice fa fb.length fc) := c1
        have d2 : (w.drewN n).cell? ⟨b2, o2 + k, none⟩ = some (.slice ga gb.length gc) := c2
        clear c1 c2 HR1 HR2
        generalize hW : w.drewN n = W at d1 d2 HBY ⊢
        have HW : Hid (w.drewN n = W) := hW
        clear hW
        by_cases he : fb = gb
        · rw [decide_eq_true he] at HBY
          have HE : Hid (fb = gb) := he
          clear he
          go_wp2_with fail
          go_quiet (first | (go_at_call 18; exact HBY.out _))
          go_wp2_with fail
          exact ⟨⟨k + 1, n + nq, by omega, by go_num, by rw [← HW.out]; exact World.drewN_drewN _ _ _, HQ.out HE.out⟩, by simp [iof]; omega⟩
        · rw [decide_eq_false he] at HBY
          go_wp2_with fail
          go_quiet (first | (go_at_call 18; exact HBY.out _))
          go_wp2_with fail
          go_ret
          exact ⟨retB (decide_eq_false (HD.out he)).symm, n + nq, by rw [← HW.out]; exact World.drewN_drewN _ _ _⟩
      · go_wp2_with fail
        go_ret
        refine ⟨retB (decide_eq_true ?_).symm, n, rfl⟩
        apply List.ext_getElem (by simpa using HL.out)
        intro i h1 h2
        simp only [List.length_map] at h1 h2
        have := HS.out i (by omega)
        simpa [List.getD, h1, h2] using this
  · have hne : ((fs.length : Int) != (gs.length : Int)) = true := by rw [bne_iff_ne]; omega
    have HL : Hid (fs.map (·.b) ≠ gs.map (·.b)) := fun c => hlen (by have := congrArg List.length c; simpa using this)
    go_enter Try.func14, Try.ntmps14
    go_wp2_with fail
    go_ret
    exact ⟨retB (decide_eq_false HL.out).symm, 0, rfl⟩
/-- A number as four bytes, the greatest first. -/
def le4 (n : Nat) : List Nat := [n / 16777216 % 256, n / 65536 % 256, n / 256 % 256, n % 256]
theorem put4 (n : Nat) : putL [0, 0, 0, 0] 0 4 true n = le4 n := by
  simp [putL, le4, plc, List.range, List.range.loop]
theorem be_le4 (n : Nat) (h : n < 4294967296) (t : List Nat) : be (le4 n ++ t) = n := by
  rw [be_app _ _ (by simp [le4])]
  simp only [le4, be_val]
  omega
theorem le4_lt (n : Nat) : ∀ i, (le4 n).getD i 0 < 256 := by
  intro i
  by_cases hi : i < 4
  · have : i = 0 ∨ i = 1 ∨ i = 2 ∨ i = 3 := by omega
    rcases this with rfl | rfl | rfl | rfl <;> simp [le4] <;> omega
  · rw [getD_out _ _ (by simp [le4]; omega)]; omega
theorem owns_base {w : World} {B B' : Nat} {e : TypeId} {s : Nat} {v : Value} {n : Nat} {xs : List Value} (h : w.ownsRow B e s v n xs) (hb : B' ≤ B) : w.ownsRow B' e s v n xs := by
  refine ⟨h.1, ?_⟩
  rcases h.2 with q | ⟨g, cap, cur, rfl, hB, rest⟩
  · exact .inl q
  · exact .inr ⟨g, cap, cur, rfl, by omega, rest⟩
theorem made_row4 {w : World} {B g : Nat} (h : w.ownsRow B 5 1 (.slice (some ⟨g, 0, none⟩) 4 4) 4 (madeCells (Value.int .u8 0).cells (4 * 1)).toList) : Row w (some ⟨g, 0, none⟩) [0, 0, 0, 0] := by
  have e : (madeCells (Value.int .u8 0).cells (4 * 1)).toList = cv [0, 0, 0, 0] := by kernel_rfl
  rw [e] at h
  exact Own.row (B := B) (cap := 4) h (fun i => by
    by_cases hi : i < 4
    · have : ∀ i, i < 4 → [0, 0, 0, 0].getD i 0 < 256 := by decide
      exact this i hi
    · rw [getD_out _ _ (by simp; omega)]; omega)
set_option maxRecDepth 100000 in
theorem wrap_big (a : Option Addr) (cap n : Nat) (w : World) (h : 8192 < n) (hm : n ≤ maxLen) :
    Calls Try.prog 16 #[.slice a n cap] w fun e w' => e = .returned (.tuple #[.slice none 0 0, .bool false]) ∧ w' = w := by
  unfold maxLen at hm
  have hI : (8192 : Int) < (n : Int) := by omega
  go_enter Try.func16, Try.ntmps16
  go_wp2_with fail
  go_ret2
  exact ⟨rfl, rfl⟩
set_option maxRecDepth 100000 in
theorem wrap_ok (a : Option Addr) (cap : Nat) (l : List Nat) (w : World) (hr : Row w a l) (hn : a = none → cap = 0) (h : l.length ≤ 8192) :
    Calls Try.prog 16 #[.slice a l.length cap] w fun e w' => ∃ g c, e = .returned (.tuple #[.slice (some ⟨g, 0, none⟩) (le4 l.length ++ l).length c, .bool true]) ∧ Own w.heap.size w' g c (le4 l.length ++ l) ∧ Below w.heap.size w w' := by
  obtain ⟨i0, hi0, hz0, hz1, hz2⟩ := info_parts Try.info5
  have HR : Hid (Row w a l) := hr
  have HNC : Hid (a = none → cap = 0) := hn
  have HP : Hid (∀ w1 g, Row w1 (some ⟨g, 0, none⟩) [0, 0, 0, 0] → Calls Try.prog 23 #[.slice (some ⟨g, 0, none⟩) 4 4, .int .i64 0, .int .i64 4, .bool true, .int .u64 (l.length : Int)] w1 fun e w' => (∃ g2, e = .returned (.tuple #[.slice (some ⟨g2, 0, none⟩) 4 4, .bool true]) ∧ Own w1.heap.size w' g2 4 (le4 l.length)) ∧ Below w1.heap.size w1 w') := by
    intro w1 g h1
    have := put_yes (some ⟨g, 0, none⟩) 4 [0, 0, 0, 0] 0 4 true l.length w1 h1 (by simp) (by omega) (by omega) (by simp) (by omega)
    rw [put4] at this
    exact this
  have hI : ¬ (8192 : Int) < (l.length : Int) := by omega
  have hd : decide ((8192 : Int) < (l.length : Int)) = false := decide_eq_false hI
  clear hr hn
  have hwl : IntKind.u64.wrap (l.length : Int) = (l.length : Int) := wu64 _ (by omega) (by omega)
  go_enter Try.func16, Try.ntmps16
  go_wp2_with (first
    | (at_make; refine wpList_make_full _ rfl _ _ 23 rfl w.heap.size 5 i0 (.int .u8 0) 1 Try.underlying23 hi0 hz0 hz1 .i64 .i64 _ _ 4 rfl rfl rfl rfl (by rw [hz2]; omega) (by unfold maxLen; omega) (Nat.le_refl _) ?_; intro w1 hown hg; have HR1 : Hid (Row w1 (some ⟨w.heap.size, 0, none⟩) [0, 0, 0, 0]) := made_row4 hown; have HB1 : Hid (Below w.heap.size w w1) := below_made hg; clear hown hg)
    | (go_at_call 23; refine (HP.out _ _ HR1.out).mono ?_; rintro e w2 ⟨⟨g2, rfl, hown2⟩, hb2⟩; have HB2 : Hid (Below w.heap.size w w2) := HB1.out.trans (hb2.mono HB1.out.size); have HO2 : Hid (w2.ownsRow w.heap.size 5 1 (.slice (some ⟨g2, 0, none⟩) 4 4) 4 (cv (le4 l.length))) := owns_base hown2 HB1.out.size; have HRL : Hid (Row w2 a l) := Row.below HR.out HB2.out; clear hown2 hb2)
    | (at_builtin; have _t := HO2; refine wpList_append_row (by rfl) _ _ rfl w.heap.size w _ 4 _ rfl HO2.out HB2.out HB2.out.size a cap l rfl HRL.out HNC.out (by omega) ?_; intro v3 w3 hown3 hb3; have HO3 : Hid (w3.ownsRow w.heap.size 5 1 v3 (4 + l.length) (cv (le4 l.length) ++ cv l)) := hown3; have HB3 : Hid (Below w.heap.size w w3) := hb3; clear hown3 hb3 _t HO2))
  go_ret2
  have ho : w3.ownsRow w.heap.size 5 1 v3 (le4 l.length ++ l).length (cv (le4 l.length ++ l)) := by rw [cv_append, List.length_append]; exact HO3.out
  obtain ⟨g, c, rfl, hown⟩ := owns_some ho (by simp [le4])
  exact ⟨g, c, rfl, hown, HB3.out⟩
theorem wrap_any (a : Option Addr) (cap : Nat) (l : List Nat) (w : World) (hr : Row w a l) (hn : a = none → cap = 0) (hm : l.length ≤ maxLen) :
    Calls Try.prog 16 #[.slice a l.length cap] w fun e w' => (8192 < l.length ∧ e = .returned (.tuple #[.slice none 0 0, .bool false]) ∧ w' = w) ∨ (l.length ≤ 8192 ∧ ∃ g c, e = .returned (.tuple #[.slice (some ⟨g, 0, none⟩) (le4 l.length ++ l).length c, .bool true]) ∧ Own w.heap.size w' g c (le4 l.length ++ l) ∧ Below w.heap.size w w') := by
  by_cases h : 8192 < l.length
  · exact (wrap_big a cap l.length w h hm).mono (fun e w' h2 => .inl ⟨h, h2⟩)
  · exact (wrap_ok a cap l w hr hn (by omega)).mono (fun e w' h2 => .inr ⟨by omega, h2⟩)
end Go.Proofs.Ythbomgjjdmogpaa
