/- Put (of bits): a copy with a number laid into it, of any bytes, 2000 at most. -/
import Derived.Test.YtffnhmccoacglaaSet
import Derived.Deep.RegionWith
namespace Go.Proofs.Ytffnhmccoacglaa
set_option linter.unusedSimpArgs false
set_option linter.unusedVariables false
open Go.RowKit
/-- The bytes with the least 'size' bytes of V laid at p. -/
def putL (l : List Nat) (p size : Nat) (big : Bool) (V : Nat) : List Nat := (List.range l.length).map fun i => if p ≤ i ∧ i < p + size then V / 256 ^ plc size big (i - p) % 256 else l.getD i 0
theorem putL_length (l : List Nat) (p size : Nat) (big : Bool) (V : Nat) : (putL l p size big V).length = l.length := by simp [putL]
theorem putL_get (l : List Nat) (p size : Nat) (big : Bool) (V i : Nat) (h : i < l.length) : (putL l p size big V).getD i 0 = if p ≤ i ∧ i < p + size then V / 256 ^ plc size big (i - p) % 256 else l.getD i 0 := by
  simp [putL, List.getD, h]
theorem putL_lt (l : List Nat) (p size : Nat) (big : Bool) (V : Nat) (h : ∀ i, l.getD i 0 < 256) : ∀ i, (putL l p size big V).getD i 0 < 256 := by
  intro i
  by_cases hi : i < l.length
  · rw [putL_get _ _ _ _ _ _ hi]; split
    · omega
    · exact h i
  · rw [getD_out _ _ (by rw [putL_length]; omega)]; omega
/-- Behind k rounds. -/
structure PutAt (l : List Nat) (p size : Nat) (big : Bool) (V k : Nat) (cur : List Nat) : Prop where
  len : cur.length = l.length
  at' : ∀ i, i < l.length → cur.getD i 0 = if p ≤ i ∧ i < p + size ∧ plc size big (i - p) < k then V / 256 ^ plc size big (i - p) % 256 else l.getD i 0
theorem PutAt.start (l : List Nat) (p size : Nat) (big : Bool) (V : Nat) : PutAt l p size big V 0 l := ⟨rfl, fun i hi => by simp⟩
theorem plc_lt (size : Nat) (big : Bool) (k : Nat) (h : k < size) : plc size big k < size := by unfold plc; split <;> omega
theorem plc_plc (size : Nat) (big : Bool) (k : Nat) (h : k < size) : plc size big (plc size big k) = k := by unfold plc; split <;> omega
theorem PutAt.step {l : List Nat} {p size : Nat} {big : Bool} {V k : Nat} {cur : List Nat} (h : PutAt l p size big V k cur) (hk : k < size) (hp : p + size ≤ l.length) :
    PutAt l p size big V (k + 1) (cur.set (p + plc size big k) (V / 256 ^ k % 256)) := by
  have h1 := plc_lt size big k hk
  have h2 := plc_plc size big k hk
  refine ⟨by simp [h.len], fun i hi => ?_⟩
  rw [getD_set _ _ _ _ (by rw [h.len]; exact hi), h.at' i hi]
  by_cases e : p + plc size big k = i
  · subst e
    rw [if_pos rfl, Nat.add_sub_cancel_left, h2, if_pos (by omega)]
  · rw [if_neg e]
    by_cases hin : p ≤ i ∧ i < p + size
    · have h3 := plc_plc size big (i - p) (by omega)
      have h4 : plc size big (i - p) ≠ k := by
        intro c; rw [c] at h3; omega
      by_cases h5 : plc size big (i - p) < k
      · rw [if_pos (by omega), if_pos (by omega)]
      · rw [if_neg (by omega), if_neg (by omega)]
    · rw [if_neg (by omega), if_neg (by omega)]
theorem PutAt.done {l : List Nat} {p size : Nat} {big : Bool} {V : Nat} {cur : List Nat} (h : PutAt l p size big V size cur) : cur = putL l p size big V := by
  apply list_ext (by rw [h.len, putL_length])
  intro i hi
  rw [h.len] at hi
  rw [h.at' i hi, putL_get _ _ _ _ _ _ hi]
  by_cases hin : p ≤ i ∧ i < p + size
  · rw [if_pos ⟨hin.1, hin.2, plc_lt size big _ (by omega)⟩, if_pos hin]
  · rw [if_neg (by omega), if_neg hin]
theorem byte_at (V k : Nat) : (V : Int) / 2 ^ (8 * k) % 256 = ((V / 256 ^ k % 256 : Nat) : Int) := by
  have e : (256 : Nat) ^ k = 2 ^ (8 * k) := by rw [Nat.pow_mul]
  rw [e]
  simp
theorem put_no (a : Option Addr) (cap len : Nat) (p size : Int) (big : Bool) (V : Int) (w : World) (hl : len ≤ maxLen) (hf : fitsB len p size = false) :
    Calls Try.prog 18 #[.slice a len cap, .int .i64 p, .int .i64 size, .bool big, .int .u64 V] w fun e w' => e = .returned (.tuple #[.slice none 0 0, .bool false]) ∧ w' = w := by
  go_enter Try.func18, Try.ntmps18
  go_wp2_with (go_at_call 43; refine (fits_any _ _ _ _ _ _ hl).mono ?_; rintro e w' ⟨rfl, rfl⟩; rw [hf])
  go_ret2
  exact ⟨rfl, rfl⟩
set_option maxRecDepth 100000 in
set_option maxHeartbeats 800000 in
theorem put_yes (a : Option Addr) (cap : Nat) (l : List Nat) (p size : Nat) (big : Bool) (V : Nat) (w : World) (hr : Row w a l) (hl : l.length ≤ 2000) (h1 : 1 ≤ size) (h2 : size ≤ 8) (h3 : p + size ≤ l.length) (hV : V ≤ 18446744073709551615) :
    Calls Try.prog 18 #[.slice a l.length cap, .int .i64 p, .int .i64 size, .bool big, .int .u64 V] w fun e w' =>
      (∃ g, e = .returned (.tuple #[.slice (some ⟨g, 0, none⟩) l.length l.length, .bool true]) ∧ Own w.heap.size w' g l.length (putL l p size big V)) ∧ Below w.heap.size w w' := by
  have hf : fitsB l.length p size = true := by simp [fitsB]; omega
  have hl0 : l.length ≤ maxLen := by unfold maxLen; omega
  go_enter Try.func18, Try.ntmps18
  go_wp2_with (go_at_call 43; refine (fits_any _ _ _ _ _ _ hl0).mono ?_; rintro e w' ⟨rfl, rfl⟩; rw [hf])
  refine (clone_any a cap l _ hr hl).mono ?_
  rintro e w1 ⟨⟨g, rfl, hown⟩, hbel⟩
  go_wp2_with fail
  go_loopw [21] (fun i wr => ∃ (k : Nat) (cur : List Nat), k ≤ size ∧ i = .int .i64 k ∧ PutAt l p size big V k cur ∧ Own _ wr g l.length cur ∧ Below _ _ wr) (fun i _ => size - (intOf i).toNat)
  case atStart => exact ⟨0, l, by omega, rfl, PutAt.start _ _ _ _ _, hown, hbel⟩
  case round =>
    obtain ⟨k, cur, hk, rfl, hat, hown, hbel⟩ := hrel
    clear hr
    by_cases hlt : k < size
    · have hpl := plc_lt size big k hlt
      have HN : Hid (PutAt l p size big V (k + 1) (cur.set (p + plc size big k) (V / 256 ^ k % 256))) := hat.step hlt h3
      have hcell := hown.cell (p + plc size big k) (by rw [hat.len]; omega)
      have hfree := hown.free (p + plc size big k)
      have hge := hown.ge
      have hpi : placeI k size big = (plc size big k : Nat) := by
        unfold placeI plc; cases big
        · simp
        · simp; omega
      have hby := byte_at V k
      generalize plc size big k = q at *
      generalize cur.getD (p + q) 0 = c0 at *
      have hltq : ((p : Int) + q) < (l.length : Int) := by omega
      clear hat
      have x1 : IntKind.i64.wrap (8 * (k : Int)) = 8 * (k : Int) := by rw [IntKind.wrap_i64]; omega
      have x2 : IntKind.i64.wrap ((p : Int) + (q : Int)) = (p : Int) + q := by rw [IntKind.wrap_i64]; omega
      have x3 : (0 : Int) ≤ 8 * (k : Int) := by omega
      have x4 : 8 * (k : Int) ≤ 64 := by omega
      have x5 : (8 * (k : Int)).toNat = 8 * k := by omega
      have x6 : ((p : Int) + (q : Int)).toNat = p + q := by omega
      have x7 : (0 : Int) ≤ (p : Int) + q := by omega
      have x8 : IntKind.u8.wrap ((V : Int) / 2 ^ (8 * k)) = ((V / 256 ^ k % 256 : Nat) : Int) := by rw [IntKind.wrap_u8, hby]
      clear hby
      generalize V / 256 ^ k % 256 = d at *
      go_wp2_with fail
      go_region_with (go_at_call 44; refine (place_any _ _ _ _ (by omega) (by omega) (by omega)).mono ?_; rintro e w' ⟨rfl, rfl⟩; rw [hpi])
      all_goals go_wp2
      exact ⟨⟨k + 1, cur.set (p + q) d, by omega, by go_num, HN.out, hown.store _ _, (hbel.setCell hge.1 _).drew⟩, by simp [intOf]; omega⟩
    · obtain rfl : k = size := by omega
      have HD : Hid (cur = putL l p k big V) := hat.done
      clear hat
      go_wp2
      go_ret2
      exact ⟨⟨g, rfl, by rw [← HD.out]; exact hown⟩, hbel⟩
def putI (l : List Nat) (p size : Int) (big : Bool) (V : Nat) : List Nat := if fitsB l.length p size then putL l p.toNat size.toNat big V else []
/-- Put, in one: the bytes in new memory (or none), and whether it fits. -/
theorem put_any (a : Option Addr) (cap : Nat) (l : List Nat) (p size : Int) (big : Bool) (V : Nat) (w : World) (hr : Row w a l) (hl : l.length ≤ 2000) (hV : V ≤ 18446744073709551615) :
    Calls Try.prog 18 #[.slice a l.length cap, .int .i64 p, .int .i64 size, .bool big, .int .u64 V] w fun e w' =>
      (∃ a' cap', e = .returned (.tuple #[.slice a' (putI l p size big V).length cap', .bool (fitsB l.length p size)]) ∧ Row w' a' (putI l p size big V)) ∧ Below w.heap.size w w' := by
  by_cases hf : fitsB l.length p size = true
  · have hf' : 1 ≤ size ∧ size ≤ 8 ∧ 0 ≤ p ∧ p ≤ l.length - size := by simpa [fitsB] using hf
    obtain ⟨n, rfl⟩ := Int.eq_ofNat_of_zero_le hf'.2.2.1
    obtain ⟨m, rfl⟩ := Int.eq_ofNat_of_zero_le (show 0 ≤ size by omega)
    refine (put_yes a cap l n m big V w hr hl (by omega) (by omega) (by omega) hV).mono fun e w' h => ?_
    obtain ⟨⟨g, rfl, hown⟩, hb⟩ := h
    have e1 : putI l n m big V = putL l n m big V := by simp [putI, hf]
    refine ⟨⟨some ⟨g, 0, none⟩, l.length, ?_, ?_⟩, hb⟩
    · rw [e1, putL_length, hf]
    · rw [e1]; exact hown.row (putL_lt l n m big V hr.lt)
  · have hf2 : fitsB l.length p size = false := by simpa using hf
    refine (put_no a cap l.length p size big V w (by unfold maxLen; omega) hf2).mono fun e w' h => ?_
    obtain ⟨rfl, rfl⟩ := h
    have e1 : putI l p size big V = [] := by simp [putI, hf2]
    refine ⟨⟨none, 0, ?_, ?_⟩, Below.refl _ _⟩
    · rw [e1, hf2]; rfl
    · rw [e1]; exact Row.nil _ _
end Go.Proofs.Ytffnhmccoacglaa
