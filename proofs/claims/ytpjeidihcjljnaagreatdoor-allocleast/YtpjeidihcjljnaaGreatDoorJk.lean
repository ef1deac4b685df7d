/- check: what is wrong with changes. -/
import Derived.Test.YtpjeidihcjljnaaGreatDoorJf
namespace Go.Proofs.YtpjeidihcjljnaaGreatDoor
set_option linter.unusedSimpArgs false
set_option linter.unusedVariables false
open Go.RowKit Go.MapKept Go.Proofs
open Go.ChangeMaps (setBlock)
abbrev mkZ (k : Int) : Value := .int .i64 k
theorem kbZ : KB 3 mkZ where
  inj := fun {a b} h => by simpa [mkZ] using h
  check := fun w em a => run_checkKey Tryz.underlying3 (show IsKey (.int .i64) (mkZ a) from rfl) em 9999
  find := fun w a es hes => by
    have hks : ∀ y ∈ es, IsKey (.int .i64) y.key := fun y hy => by
      obtain ⟨b, e⟩ := hes y hy
      rw [e]; rfl
    rcases findNow_spec (d := .int .i64) (k := mkZ a) rfl es 0 hks with ⟨h1, h2⟩ | ⟨j, e0, h1, h2, h3⟩
    · exact Or.inl ⟨run_findKey Tryz.underlying3 h1, h2⟩
    · exact Or.inr ⟨j, e0, by simpa using run_findKey Tryz.underlying3 h1, h2, h3⟩
  stays := fun w a => run_keyThatStays (d := .int .i64) (show IsKey (.int .i64) (mkZ a) from rfl)
theorem zero102 (w : World) : (zeroValue 127).run Tryz.prog w = .ok (.agg #[]) w := by
  have h : (Tryz.prog.info? 127).map (fun i => i.zero) = some (some (.agg #[])) := by kernel_rfl
  cases hi : Tryz.prog.info? 127 with
  | none => rw [hi] at h; cases h
  | some i =>
    rw [hi] at h
    have hz : i.zero = some (.agg #[]) := by simpa using h
    simp [zeroValue, typeInfo, hi, hz]
/-- A row of changes, whatever they are: their blocks, how long their data is. -/
def CRow (w : World) (la : Option Addr) (ks : List Int) (ls : List Nat) : Prop := ls.length = ks.length ∧ ∀ i, i < ks.length → ∃ lk a c, la = some ⟨lk, 0, none⟩ ∧ w.cell? ⟨lk, i * 2, none⟩ = some (.int .i64 (ks.getD i 0)) ∧ w.cell? ⟨lk, i * 2 + 1, none⟩ = some (.slice a (ls.getD i 0) c) ∧ ls.getD i 0 ≤ 9223372036854775807
theorem CRow.below {w w' : World} {la : Option Addr} {ks : List Int} {ls : List Nat} (h : CRow w la ks ls) (hb : Below w.heap.size w w') : CRow w' la ks ls :=
  ⟨h.1, fun i hi => by
    obtain ⟨lk, a, c, e, h1, h2, h3⟩ := h.2 i hi
    exact ⟨lk, a, c, e, by rw [hb.cell (World.block_lt_of_cell? _ _ h1)]; exact h1, by rw [hb.cell (World.block_lt_of_cell? _ _ h2)]; exact h2, h3⟩⟩
def badB (hasP : Int → Bool) (ks : List Int) (ls : List Nat) (i : Nat) : Bool := decide (ks.getD i 0 ∈ ks.take i) || !hasP (ks.getD i 0) || (ls.getD i 0 != 512)
def checkCode (hasP : Int → Bool) (ks : List Int) (ls : List Nat) : Int := if (List.range ks.length).any (badB hasP ks ls) then 1 else if 60 < ks.length then 2 else 0
theorem code_bad {hasP : Int → Bool} {ks : List Int} {ls : List Nat} {i : Nat} (hi : i < ks.length) (h : badB hasP ks ls i = true) : checkCode hasP ks ls = 1 := by
  unfold checkCode
  rw [if_pos (List.any_eq_true.2 ⟨i, List.mem_range.2 hi, h⟩)]
theorem code_good {hasP : Int → Bool} {ks : List Int} {ls : List Nat} (h : ∀ i, i < ks.length → badB hasP ks ls i = false) : checkCode hasP ks ls = if 60 < ks.length then 2 else 0 := by
  unfold checkCode
  rw [if_neg]
  intro c
  obtain ⟨i, hi, hb⟩ := List.any_eq_true.1 c
  rw [h i (List.mem_range.1 hi)] at hb
  cases hb
def seenF (ks : List Int) (i : Nat) (z : Int) : Option Value := if z ∈ ks.take i then some (.agg #[]) else none
theorem seen_put (ks : List Int) (i : Nat) (hi : i < ks.length) : put (seenF ks i) (ks.getD i 0) (.agg #[]) = seenF ks (i + 1) := by
  have htk : ks.take (i + 1) = ks.take i ++ [ks.getD i 0] := by rw [List.take_add_one]; simp [List.getD, hi]
  funext z
  unfold put seenF
  rw [htk]
  by_cases e : z = ks.getD i 0
  · rw [if_pos e, if_pos (by simp [e])]
  · rw [if_neg e]
    by_cases hm : z ∈ ks.take i
    · rw [if_pos hm, if_pos (by simp [hm])]
    · rw [if_neg hm, if_neg (by rw [List.mem_append, List.mem_singleton]; exact fun c => c.elim hm e)]
set_option maxRecDepth 100000 in
set_option maxHeartbeats 1000000 in
theorem check_any {w : World} {jv : Option Addr} {la : Option Addr} {cap : Nat} {ks : List Int} {ls : List Nat} (hasP : Int → Bool) (hH : ∀ w' k, Below w.heap.size w w' → Calls Tryz.prog 56 #[.pointer jv, .int .i64 k] w' fun e w'' => e = .returned (.bool (hasP k)) ∧ w'' = w') (hrow : CRow w la ks ls) (hlen : ks.length ≤ 1000000) :
    Calls Tryz.prog 65 #[.pointer jv, .slice la ks.length cap] w fun e w' => e = .returned (.int .i64 (checkCode hasP ks ls)) ∧ Below w.heap.size w w' := by
  have hmm := @run_makeMap Tryz.prog
  have b0 : Below w.heap.size w (w.alloc (.map #[] 0)) := (Below.refl _ _).alloc (Nat.le_refl _) _
  have hM0 : MapIs (w.alloc (.map #[] 0)) w.heap.size mkZ (seenF ks 0) 0 := by
    have : seenF ks 0 = fun _ => none := by funext z; simp [seenF]
    rw [this]
    exact MapIs.made w
  have HH : Hid _ := hH
  clear hH
  go_enter Tryz.func65, Tryz.ntmps65
  go_wp2
  go_loopw [13] (fun i wr => ∃ k m, k ≤ ks.length ∧ i = .int .i64 (k : Int) ∧ MapIs wr w.heap.size mkZ (seenF ks k) m ∧ Below w.heap.size w wr ∧ ∀ x, x < k → badB hasP ks ls x = false) (fun i _ => ks.length - (intOf i).toNat)
  case atStart => exact ⟨0, 0, by omega, rfl, hM0, b0, by intro x hx; omega⟩
  case round =>
    clear hM0 b0
    obtain ⟨k, m, hk, rfl, hM, hbw, hgood⟩ := hrel
    have HG : Hid (∀ x, x < k → badB hasP ks ls x = false) := hgood
    clear hgood
    by_cases hlt : k < ks.length
    · have hltI : (k : Int) < (ks.length : Int) := by omega
      obtain ⟨lk, a, c, rfl, r1, r2, r3⟩ := (hrow.below hbw).2 k hlt
      have HBD : Hid (badB hasP ks ls k = (decide (ks.getD k 0 ∈ ks.take k) || !hasP (ks.getD k 0) || (ls.getD k 0 != 512))) := rfl
      have HSP : Hid (put (seenF ks k) (ks.getD k 0) (.agg #[]) = seenF ks (k + 1)) := seen_put ks k hlt
      have hsk : seenF ks k (ks.getD k 0) = if ks.getD k 0 ∈ ks.take k then some (.agg #[]) else none := rfl
      generalize ks.getD k 0 = K at *
      generalize ls.getD k 0 = len at *
      have b5 : Below wr.heap.size wr (wr.alloc (.cells #[.int .i64 K, .slice a len c] 109)) := (Below.refl _ _).alloc (Nat.le_refl _) _
      have b6 : Below wr.heap.size wr ((wr.alloc (.cells #[.int .i64 K, .slice a len c] 109)).alloc (.cells #[] 127)) := b5.alloc b5.size _
      have hM6 := hM.below b6
      have hlk := (hM.below b5).lookOk kbZ Tryz.underlying126 zero102 K
      have HHK := HH.out ((wr.alloc (.cells #[.int .i64 K, .slice a len c] 109)).alloc (.cells #[] 127)) K (hbw.trans (b6.mono hbw.size))
      have HHKH : Hid (Calls Tryz.prog 56 #[.pointer jv, .int .i64 K] ((wr.alloc (.cells #[.int .i64 K, .slice a len c] 109)).alloc (.cells #[] 127)) fun e w'' => e = .returned (.bool (hasP K)) ∧ w'' = (wr.alloc (.cells #[.int .i64 K, .slice a len c] 109)).alloc (.cells #[] 127)) := HHK
      clear HHK
      simp only [mkZ] at hlk
      by_cases hin : K ∈ ks.take k
      · rw [hsk, if_pos hin] at hlk
        simp only [Option.getD_some, Option.isSome_some] at hlk
        have HCC : Hid (checkCode hasP ks ls = 1) := code_bad hlt (by rw [HBD.out]; simp [hin])
        have HBB : Hid (Below w.heap.size w ((wr.alloc (.cells #[.int .i64 K, .slice a len c] 109)).alloc (.cells #[] 127))) := hbw.trans (b6.mono hbw.size)
        clear hsk hM hM6 b5 b6
        go_wp2
        go_ret
        exact ⟨by rw [HCC.out]; rfl, HBB.out⟩
      · rw [hsk, if_neg hin] at hlk
        simp only [Option.getD_none, Option.isSome_none] at hlk
        have HIN : Hid (K ∉ ks.take k) := hin
        cases hhp : hasP K with
        | false =>
          have HCC : Hid (checkCode hasP ks ls = 1) := code_bad hlt (by rw [HBD.out]; simp [hhp])
          have HBB : Hid (Below w.heap.size w ((wr.alloc (.cells #[.int .i64 K, .slice a len c] 109)).alloc (.cells #[] 127))) := hbw.trans (b6.mono hbw.size)
          have HHP : Hid (hasP K = false) := hhp
          clear hsk hM hM6 b5 b6 hin hhp
          go_wp2_with (go_at_call 56; refine Calls.mono HHKH.out ?_; rintro e w3 ⟨rfl, hw⟩; subst w3; rw [HHP.out])
          go_ret
          exact ⟨by rw [HCC.out]; rfl, HBB.out⟩
        | true =>
          have HHP : Hid (hasP K = true) := hhp
          by_cases hl : len = 512
          · subst hl
            obtain ⟨es', cl', hst, hE', hsz'⟩ := hM6.store kbZ Tryz.underlying126 K (.agg #[])
            have hst2 := hst _ rfl
            have HNX : Hid (MapIs (setBlock ((wr.alloc (.cells #[.int .i64 K, .slice a 512 c] 109)).alloc (.cells #[] 127)) w.heap.size (.map es' cl')) w.heap.size mkZ (seenF ks (k + 1)) (m + 1) ∧ Below w.heap.size w (setBlock ((wr.alloc (.cells #[.int .i64 K, .slice a 512 c] 109)).alloc (.cells #[] 127)) w.heap.size (.map es' cl')) ∧ ∀ x, x < k + 1 → badB hasP ks ls x = false) := by
              have hb6 := hbw.trans (b6.mono hbw.size)
              refine ⟨⟨es', cl', setBlock_same _ _ _ hM6.lt, by rw [← HSP.out]; exact hE', hsz'⟩, ⟨hb6.os, hb6.tape, hb6.output, by simpa [Go.ChangeMaps.setBlock] using hb6.size, fun x hx => (setBlock_other _ _ _ _ (by omega)).trans (hb6.block x hx)⟩, fun x hx => ?_⟩
              by_cases e : x = k
              · subst e; rw [HBD.out]; simp [HIN.out, hhp]
              · exact HG.out x (by omega)
            simp only [mkZ] at hst2
            clear hsk hM hM6 b5 b6 hin hhp hst hE' hsz' HBD HSP
            go_wp2_with (go_at_call 56; refine Calls.mono HHKH.out ?_; rintro e w3 ⟨rfl, hw⟩; subst w3; rw [HHP.out])
            exact ⟨⟨k + 1, m + 1, by omega, by go_num, HNX.out.1, HNX.out.2.1, HNX.out.2.2⟩, by simp [intOf]; omega⟩
          · have hlI : ((len : Int) != 512) = true := by simp; omega
            have HCC : Hid (checkCode hasP ks ls = 1) := code_bad hlt (by rw [HBD.out]; simp [hl])
            have HBB : Hid (Below w.heap.size w ((wr.alloc (.cells #[.int .i64 K, .slice a len c] 109)).alloc (.cells #[] 127))) := hbw.trans (b6.mono hbw.size)
            clear hsk hM hM6 b5 b6 hin hhp hl
            go_wp2_with (go_at_call 56; refine Calls.mono HHKH.out ?_; rintro e w3 ⟨rfl, hw⟩; subst w3; rw [HHP.out])
            go_ret
            exact ⟨by rw [HCC.out]; rfl, HBB.out⟩
    · obtain rfl : k = ks.length := by omega
      by_cases h60 : 60 < ks.length
      · have h60I : (60 : Int) < (ks.length : Int) := by omega
        have HCC : Hid (checkCode hasP ks ls = 2) := by show _ = _; rw [code_good HG.out, if_pos h60]
        go_wp2
        go_ret
        exact ⟨by rw [HCC.out]; rfl, hbw⟩
      · have h60I : ¬ (60 : Int) < (ks.length : Int) := by omega
        have HCC : Hid (checkCode hasP ks ls = 0) := by show _ = _; rw [code_good HG.out, if_neg h60]
        go_wp2
        go_ret
        exact ⟨by rw [HCC.out]; rfl, hbw⟩
end Go.Proofs.YtpjeidihcjljnaaGreatDoor
