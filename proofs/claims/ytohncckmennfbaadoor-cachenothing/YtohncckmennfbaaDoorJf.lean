/- A look-up with its ok; find; Read of a journal. -/
import Derived.Test.YtohncckmennfbaaDoorJa
namespace Go.Proofs.YtohncckmennfbaaDoor
set_option linter.unusedSimpArgs false
set_option linter.unusedVariables false
open Go.RowKit Go.MapKept
section
variable {α : Type} {mk : α → Value} {f : α → Option Value} {w w' : World} {b n : Nat}
/-- v, ok := m[k]. -/
theorem MapIs.lookOk {k t e : TypeId} (h : MapIs w b mk f n) (K : KB k mk) (ht : Tryd.prog.underlying t = some (.map k e)) {z : Value} (hz : ∀ w, (zeroValue e).run Tryd.prog w = .ok z w) (a : α) :
    (Instr.lookup t (.map (some b)) (mk a) true).run Tryd.prog w = .ok (.tuple #[(f a).getD z, .bool (f a).isSome]) w := by
  obtain ⟨es, c, hb, E, _⟩ := h
  rcases K.find w a es.toList (fun x hx => by obtain ⟨y, e1, _⟩ := E.keys x hx; exact ⟨y, e1⟩) with ⟨h1, h2⟩ | ⟨j, e0, h1, h2, h3⟩
  · have hf : f a = none := by
      cases hfa : f a with
      | none => rfl
      | some v =>
        obtain ⟨x, hx, hk, _⟩ := E.all a v hfa
        exact absurd hk (h2 x hx)
    rw [hf]
    simp [Instr.lookup, run_underlying ht, MapKept.run_getObj_map hb, K.check w _ a, h1, hz, Result.andThen]
  · have hm : e0 ∈ es.toList := List.mem_of_getElem? h2
    rw [E.val K hm h3]
    simp [Instr.lookup, run_underlying ht, MapKept.run_getObj_map hb, K.check w _ a, h1, hz, Result.andThen]
end
theorem zero3 (w : World) : (zeroValue 3).run Tryd.prog w = .ok (.int .i64 0) w := by
  obtain ⟨i0, hi, hz0, hz1, hz2⟩ := info_parts info3
  simp [zeroValue, typeInfo, hi, hz0]
theorem find_any {w : World} {j dp : Nat} {FP : List Nat} {d : Dv} {T : List (List Nat)} {off : Bool} (h : Jour w j dp FP d T off) (k : Nat) :
    Calls Tryd.prog 56 #[.pointer (some ⟨j, 0, none⟩), .int .i64 (k : Int)] w fun e w' => e = .returned (.int .i64 ((find T k : Nat) : Int)) ∧ w' = w := by
  obtain ⟨F, lb, rfl, hd, hj, h1, h2⟩ := h
  obtain ⟨c0, c1, c2, c3⟩ := hj.c
  obtain ⟨m, hm⟩ := hj.live
  have h4 := hj.four
  obtain ⟨out, HO⟩ : ∃ out, Hid (find T k = out) := ⟨_, rfl⟩
  rw [HO.out]
  have HS : Hid (findN T k T.length = out) := HO
  clear HO hd hj h1 h2
  go_enter Tryd.func56, Tryd.ntmps56
  go_wp2
  go_loop [5] (fun s => ∃ n : Nat, n ≤ T.length ∧ s = .int .i64 ((n : Int) - 1) ∧ findN T k n = out) (fun s => (intOf s + 1).toNat)
  case atStart => exact ⟨T.length, by omega, rfl, HS.out⟩
  case round =>
    obtain ⟨n, hn, rfl, hs⟩ := hrel
    cases n with
    | zero =>
      have HK : Hid (k = out) := hs
      clear hs
      go_wp2
      go_ret
      exact ⟨by rw [HK.out]; rfl, rfl⟩
    | succ n =>
      have hlk := hm.lookOk kbL Tryd.underlying77 zero3 (n, k)
      have e0 : ((n + 1 : Nat) : Int) - 1 = (n : Int) := by omega
      rw [e0]
      by_cases hin : k ∈ T.getD n []
      · have hv : lv T (n, k) = some (.int .i64 ((dat T n k : Nat) : Int)) := by simp only [lv]; rw [if_pos hin]
        rw [hv] at hlk
        have HK : Hid (dat T n k = out) := by
          show _ = _
          rw [← hs]; unfold findN; rw [if_pos hin]
        clear hs hm hv
        generalize dat T n k = D at *
        simp only [Option.getD_some, Option.isSome_some, mkP] at hlk
        go_wp2
        go_ret
        exact ⟨by rw [HK.out]; rfl, rfl⟩
      · have hv : lv T (n, k) = none := by simp only [lv]; rw [if_neg hin]
        rw [hv] at hlk
        have HK : Hid (findN T k n = out) := by
          show _ = _
          rw [← hs]; conv => rhs; unfold findN
          rw [if_neg hin]
        clear hs hm hv
        simp only [Option.getD_none, Option.isSome_none, mkP] at hlk
        go_wp2
        exact ⟨⟨n, by omega, by go_num, HK.out⟩, by simp [intOf]⟩
theorem jread_bad {w : World} {j dp : Nat} {FP : List Nat} {d : Dv} {T : List (List Nat)} {off : Bool} (h : Jour w j dp FP d T off) (k : Int) (hk : hasJ d.n k = false) :
    Calls Tryd.prog 34 #[.pointer (some ⟨j, 0, none⟩), .int .i64 k] w fun e w' => e = .returned (.tuple #[.slice none 0 0, .int .i64 1]) ∧ w' = w := by
  go_enter Tryd.func34, Tryd.ntmps34
  go_wp2_with (go_at_call 55; refine (jhas_any h _).mono ?_; rintro e w1 ⟨rfl, hw⟩; subst w1; rw [hk])
  go_ret2
  exact ⟨rfl, rfl⟩
theorem jread_nil (k : Int) (w : World) : Calls Tryd.prog 34 #[.pointer none, .int .i64 k] w fun e w' => e = .returned (.tuple #[.slice none 0 0, .int .i64 1]) ∧ w' = w := by
  go_enter Tryd.func34, Tryd.ntmps34
  go_wp2_with (go_at_call 55; refine (jhas_nil _ _).mono ?_; rintro e w1 ⟨rfl, hw⟩; subst w1)
  go_ret2
  exact ⟨rfl, rfl⟩
theorem jread_ok {w : World} {j dp : Nat} {FP : List Nat} {d : Dv} {T : List (List Nat)} {off : Bool} (h : Jour w j dp FP d T off) (k : Nat) (hk : 245 ≤ k ∧ k < d.n) (hf : find T k < d.n) :
    Calls Tryd.prog 34 #[.pointer (some ⟨j, 0, none⟩), .int .i64 (k : Int)] w fun e w' => ∃ g, e = .returned (.tuple #[.slice (some ⟨g, 0, none⟩) 512 512, .int .i64 0]) ∧ Full w' g 83 (d.cur (find T k)) ∧ w.heap.size ≤ g ∧ Below w.heap.size w w' := by
  have hh : hasJ d.n (k : Int) = true := by simp [hasJ]; omega
  have hF := fun n => (find_any (w := w.drewN n) (h.below (by exact ⟨rfl, rfl, rfl, Nat.le_refl _, fun _ _ => rfl⟩)) k)
  obtain ⟨F, lb, rfl, hd, hj, h1, h2⟩ := id h
  obtain ⟨c0, c1, c2, c3⟩ := hj.c
  have hR := fun n => readD (w := w.drewN n) (hd.below (by exact ⟨rfl, rfl, rfl, Nat.le_refl _, fun _ _ => rfl⟩)) (find T k) hf
  have HF : Hid _ := hF
  have HR : Hid _ := hR
  clear hF hR
  generalize find T k = q at *
  go_enter Tryd.func34, Tryd.ntmps34
  go_wp2_with (go_at_call 55; refine (jhas_any h _).mono ?_; rintro e w1 ⟨rfl, hw⟩; subst w1; rw [hh])
  go_region_with (first
    | (go_at_call 56; refine (HF.out _).mono ?_; rintro e w1 ⟨rfl, hw⟩; subst w1)
    | (go_at_call 37; refine (HR.out _).mono ?_; rintro e w1 ⟨g, rfl, hfull, hge, hbel⟩))
  all_goals go_wp2
  all_goals go_ret2
  all_goals exact ⟨g, rfl, hfull, hge, ⟨hbel.os, hbel.tape, hbel.output, hbel.size, hbel.block⟩⟩
end Go.Proofs.YtohncckmennfbaaDoor
