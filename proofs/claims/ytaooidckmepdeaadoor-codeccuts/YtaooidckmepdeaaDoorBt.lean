/- bits' Get and Put (with fits, place, clone), as stage 1 has them. -/
import Derived.Test.YtaooidckmepdeaaDoorPn
import Derived.Test.YtaooidckmepdeaaDoorAlk
import Derived.Deep.RegionWith
namespace Go.Proofs.YtaooidckmepdeaaDoor
set_option linter.unusedSimpArgs false
set_option linter.unusedVariables false
open Go.RowKit
theorem wu64 (n : Int) (h0 : 0 ≤ n) (h1 : n ≤ 18446744073709551615) : IntKind.u64.wrap n = n := by rw [IntKind.wrap_u64]; omega
def fitsB (len : Nat) (at' size : Int) : Bool := decide (1 ≤ size ∧ size ≤ 8 ∧ 0 ≤ at' ∧ at' ≤ len - size)
theorem fits_any (a : Option Addr) (len cap : Nat) (at' size : Int) (w : World) (hl : len ≤ maxLen) :
    Calls Tryd.prog 78 #[.slice a len cap, .int .i64 at', .int .i64 size] w fun e w' => e = .returned (.bool (fitsB len at' size)) ∧ w' = w := by
  unfold maxLen at hl
  by_cases h1 : 1 ≤ size
  · by_cases h2 : size ≤ 8
    · by_cases h3 : 0 ≤ at'
      · by_cases h4 : at' ≤ len - size
        all_goals
          go_enter Tryd.func78, Tryd.ntmps78
          go_wp2
          go_ret
          simp [fitsB, h1, h2, h3, h4]
      · go_enter Tryd.func78, Tryd.ntmps78
        go_wp2
        go_ret
        simp [fitsB]
        omega
    · go_enter Tryd.func78, Tryd.ntmps78
      go_wp2
      go_ret
      simp [fitsB]
      omega
  · go_enter Tryd.func78, Tryd.ntmps78
    go_wp2
    go_ret
    simp [fitsB]
    omega
def placeI (i size : Int) (big : Bool) : Int := if big then size - 1 - i else i
theorem place_any (i size : Int) (big : Bool) (w : World) (h0 : 0 ≤ i) (h1 : i < size) (h2 : size ≤ 8) :
    Calls Tryd.prog 80 #[.int .i64 i, .int .i64 size, .bool big] w fun e w' => e = .returned (.int .i64 (placeI i size big)) ∧ w' = w := by
  cases big
  all_goals
    go_enter Tryd.func80, Tryd.ntmps80
    go_wp2
    go_ret
    exact ⟨rfl, rfl⟩
theorem p256 (n : Nat) (h : n ≤ 8) : (256 : Nat) ^ n ≤ 18446744073709551616 := by
  have := Nat.pow_le_pow_right (n := 256) (by decide) h
  omega
theorem or_step (V c i : Nat) (hi : i < 8) (hV : V < 256 ^ i) (hc : c < 256) : bits .or .u64 (V : Int) (IntKind.u64.wrap ((c : Int) * 2 ^ (8 * i))) = ((V + c * 256 ^ i : Nat) : Int) := by
  have h1 : c * 256 ^ i ≤ 255 * 256 ^ i := Nat.mul_le_mul_right _ (by omega)
  have h2 := p256 (i + 1) (by omega)
  rw [Nat.pow_succ] at h2
  have e : ((c : Int) * 2 ^ (8 * i)) = ((c * 256 ^ i : Nat) : Int) := by
    have : (256 : Nat) ^ i = 2 ^ (8 * i) := by rw [Nat.pow_mul]
    rw [this]; simp
  rw [e, wu64 _ (by omega) (by omega), u64_or_nat _ _ (by omega) (by omega), Nat.or_comm, nat_join (8 * i) _ _ ?_ ?_, Nat.add_comm]
  · rw [Nat.pow_mul]; exact Nat.mul_mod_left _ _
  · rw [Nat.pow_mul]; exact hV
theorem get_yes (a : Option Addr) (cap : Nat) (l : List Nat) (p size : Nat) (big : Bool) (w : World) (hr : Row w a l) (hl : l.length ≤ maxLen) (h1 : 1 ≤ size) (h2 : size ≤ 8) (h3 : p + size ≤ l.length) :
    Calls Tryd.prog 67 #[.slice a l.length cap, .int .i64 p, .int .i64 size, .bool big] w fun e w' => e = .returned (.tuple #[.int .u64 (getV l p size big : Nat), .bool true]) ∧ w' = w := by
  have hf : fitsB l.length p size = true := by simp [fitsB]; omega
  have hl0 := hl
  unfold maxLen at hl
  obtain ⟨f, HF⟩ : ∃ f, Hid (f = (fun j => l.getD (p + plc size big j) 0)) := ⟨_, rfl⟩
  have HG : Hid (getV l p size big = sm f size) := by show _ = _; rw [HF.out]; rfl
  have hf256 : ∀ j, f j < 256 := by intro j; rw [HF.out]; exact hr.lt _
  go_enter Tryd.func67, Tryd.ntmps67
  go_wp2_with (go_at_call 78; refine (fits_any _ _ _ _ _ _ hl0).mono ?_; rintro e w' ⟨rfl, rfl⟩; rw [hf])
  go_loop [8, 17] (fun v i => ∃ k : Nat, k ≤ size ∧ i = .int .i64 k ∧ v = .int .u64 (sm f k : Nat)) (fun _ i => size - (intOf i).toNat)
  case atStart => exact ⟨0, by omega, rfl, rfl⟩
  case round =>
    obtain ⟨k, hk, rfl, rfl⟩ := hrel
    by_cases hlt : k < size
    · have hpl : plc size big k < size := by unfold plc; split <;> omega
      obtain ⟨b, off, rfl, hc, hlt2⟩ := hr (p + plc size big k) (by omega)
      have HS : Hid (bits .or .u64 (sm f k : Nat) (IntKind.u64.wrap ((l.getD (p + plc size big k) 0 : Nat) * 2 ^ (8 * k))) = ((sm f (k + 1) : Nat) : Int)) := by
        show _ = _
        rw [or_step _ _ k (by omega) (sm_lt f hf256 k) (hr.lt _)]
        simp only [sm]
        rw [HF.out]
      have hpi : placeI k size big = (plc size big k : Nat) := by
        unfold placeI plc; cases big
        · simp
        · simp; omega
      generalize l.getD (p + plc size big k) 0 = c at *
      generalize plc size big k = q at *
      clear hr hf256
      have hltq : ((p : Int) + q) < (l.length : Int) := by omega
      go_wp2_with (go_at_call 80; refine (place_any _ _ _ _ (by omega) (by omega) (by omega)).mono ?_; rintro e w' ⟨rfl, rfl⟩; rw [hpi])
      exact ⟨⟨k + 1, by omega, by go_num, by rw [HS.out]⟩, by simp [intOf]; omega⟩
    · go_wp2
      go_ret2
      have : k = size := by omega
      subst this
      exact ⟨by rw [HG.out]; rfl, rfl⟩
set_option maxRecDepth 100000 in
theorem clone_any (a : Option Addr) (cap : Nat) (l : List Nat) (w : World) (hr : Row w a l) (hl : l.length ≤ 1000000) :
    Calls Tryd.prog 79 #[.slice a l.length cap] w fun e w' => (∃ g, e = .returned (.slice (some ⟨g, 0, none⟩) l.length l.length) ∧ Own w.heap.size w' g l.length l) ∧ Below w.heap.size w w' := by
  obtain ⟨i0, hi, hz0, hz1, hz2⟩ := info_parts Tryd.info5
  have hs1 : (Tryd.prog.info? 5).map (·.size) = some 1 := by rw [hi]; simp [hz1]
  obtain ⟨n, HN⟩ : ∃ n, Hid (l.length = n) := ⟨_, rfl⟩
  have hn : n ≤ 1000000 := by rw [← HN.out]; exact hl
  have HC : Hid ((cv l).length = n) := by show _ = _; rw [cv_length, HN.out]
  rw [HN.out]
  go_enter Tryd.func79, Tryd.ntmps79
  go_wp2_with (first
    | (at_make; refine wpList_make_full _ rfl _ _ 29 rfl w.heap.size 5 i0 (.int .u8 0) 1 Tryd.underlying29 hi hz0 hz1 .i64 .i64 _ _ n rfl rfl rfl rfl (by rw [hz2]; omega) (by unfold maxLen; omega) (Nat.le_refl _) ?_; intro w1 hown hg; obtain ⟨cur, hcur, hlen⟩ := made_blk hown; have hbel := below_made hg; have HR1 := hr.below hbel; have HLn : Hid (cur.length = n) := hlen; clear hlen hown hg hr)
    | (have _t := hcur; refine wpList_copy_splice rfl (.tmp 7) (.tmp 8) 29 29 rfl 5 Tryd.underlying29 hs1 _ _ _ _ _ _ rfl rfl w.heap.size 0 cur 5 hcur (cv l) (by rw [HC.out]; exact (Nat.min_self n).symm) (fun h0 => ⟨rfl, row_src HR1 h0⟩) (by rw [HC.out, HLn.out]; omega) (cv_one _) w.heap.size w hbel (Nat.le_refl _) ?_; intro w2 HG2 hB2))
  go_ret
  refine ⟨⟨w.heap.size, rfl, ?_⟩, by assumption⟩
  have HG : Hid _ := HG2
  have h2 := HG2.out
  rw [splice_all _ _ (by rw [HC.out, HLn.out])] at h2
  have := own_of (Nat.le_refl _) HN.out.symm (by unfold maxLen; omega) rfl h2
  exact this
/-- Behind k rounds. -/
structure PutAt (l : List Nat) (p size : Nat) (big : Bool) (V k : Nat) (cur : List Nat) : Prop where
  len : cur.length = l.length
  at' : ∀ i, i < l.length → cur.getD i 0 = if p ≤ i ∧ i < p + size ∧ plc size big (i - p) < k then V / 256 ^ plc size big (i - p) % 256 else l.getD i 0
theorem PutAt.start (l : List Nat) (p size : Nat) (big : Bool) (V : Nat) : PutAt l p size big V 0 l := ⟨rfl, fun i hi => by simp⟩
theorem plc_lt (size : Nat) (big : Bool) (k : Nat) (h : k < size) : plc size big k < size := by unfold plc; split <;> omega
theorem plc_plc (size : Nat) (big : Bool) (k : Nat) (h : k < size) : plc size big (plc size big k) = k := by unfold plc; split <;> omega
theorem PutAt.step {l : List Nat} {p size : Nat} {big : Bool} {V k : Nat} {cur : List Nat} (h : PutAt l p size big V k cur) (hk : k < size) (hp : p + size ≤ l.length) :
    PutAt l p size big V (k + 1) (cur.set (p + plc size big k) (V / 256 ^ k % 256)) := by
  have h1 := plc_lt size big k hk
  have h2 := plc_plc size big k hk
  refine ⟨by simp [h.len], fun i hi => ?_⟩
  rw [getD_set _ _ _ _ (by rw [h.len]; exact hi), h.at' i hi]
  by_cases e : p + plc size big k = i
  · subst e
    rw [if_pos rfl, Nat.add_sub_cancel_left, h2, if_pos (by omega)]
  · rw [if_neg e]
    by_cases hin : p ≤ i ∧ i < p + size
    · have h3 := plc_plc size big (i - p) (by omega)
      have h4 : plc size big (i - p) ≠ k := by
        intro c; rw [c] at h3; omega
      by_cases h5 : plc size big (i - p) < k
      · rw [if_pos (by omega), if_pos (by omega)]
      · rw [if_neg (by omega), if_neg (by omega)]
    · rw [if_neg (by omega), if_neg (by omega)]
theorem PutAt.done {l : List Nat} {p size : Nat} {big : Bool} {V : Nat} {cur : List Nat} (h : PutAt l p size big V size cur) : cur = putL l p size big V := by
  apply list_ext (by rw [h.len, putL_length])
  intro i hi
  rw [h.len] at hi
  rw [h.at' i hi, putL_get _ _ _ _ _ _ hi]
  by_cases hin : p ≤ i ∧ i < p + size
  · rw [if_pos ⟨hin.1, hin.2, plc_lt size big _ (by omega)⟩, if_pos hin]
  · rw [if_neg (by omega), if_neg hin]
theorem byte_at (V k : Nat) : (V : Int) / 2 ^ (8 * k) % 256 = ((V / 256 ^ k % 256 : Nat) : Int) := by
  have e : (256 : Nat) ^ k = 2 ^ (8 * k) := by rw [Nat.pow_mul]
  rw [e]
  simp
set_option maxRecDepth 100000 in
set_option maxHeartbeats 800000 in
theorem put_yes (a : Option Addr) (cap : Nat) (l : List Nat) (p size : Nat) (big : Bool) (V : Nat) (w : World) (hr : Row w a l) (hl : l.length ≤ 1000000) (h1 : 1 ≤ size) (h2 : size ≤ 8) (h3 : p + size ≤ l.length) (hV : V ≤ 18446744073709551615) :
    Calls Tryd.prog 52 #[.slice a l.length cap, .int .i64 p, .int .i64 size, .bool big, .int .u64 V] w fun e w' =>
      (∃ g, e = .returned (.tuple #[.slice (some ⟨g, 0, none⟩) l.length l.length, .bool true]) ∧ Own w.heap.size w' g l.length (putL l p size big V)) ∧ Below w.heap.size w w' := by
  have hf : fitsB l.length p size = true := by simp [fitsB]; omega
  have hl0 : l.length ≤ maxLen := by unfold maxLen; omega
  go_enter Tryd.func52, Tryd.ntmps52
  go_wp2_with (go_at_call 78; refine (fits_any _ _ _ _ _ _ hl0).mono ?_; rintro e w' ⟨rfl, rfl⟩; rw [hf])
  refine (clone_any a cap l _ hr hl).mono ?_
  rintro e w1 ⟨⟨g, rfl, hown⟩, hbel⟩
  go_wp2_with fail
  go_loopw [21] (fun i wr => ∃ (k : Nat) (cur : List Nat), k ≤ size ∧ i = .int .i64 k ∧ PutAt l p size big V k cur ∧ Own _ wr g l.length cur ∧ Below _ _ wr) (fun i _ => size - (intOf i).toNat)
  case atStart => exact ⟨0, l, by omega, rfl, PutAt.start _ _ _ _ _, hown, hbel⟩
  case round =>
    obtain ⟨k, cur, hk, rfl, hat, hown, hbel⟩ := hrel
    clear hr
    by_cases hlt : k < size
    · have hpl := plc_lt size big k hlt
      have HN : Hid (PutAt l p size big V (k + 1) (cur.set (p + plc size big k) (V / 256 ^ k % 256))) := hat.step hlt h3
      have hcell := hown.cell (p + plc size big k) (by rw [hat.len]; omega)
      have hfree := hown.free (p + plc size big k)
      have hge := hown.ge
      have hpi : placeI k size big = (plc size big k : Nat) := by
        unfold placeI plc; cases big
        · simp
        · simp; omega
      have hby := byte_at V k
      generalize plc size big k = q at *
      generalize cur.getD (p + q) 0 = c0 at *
      have hltq : ((p : Int) + q) < (l.length : Int) := by omega
      clear hat
      have x1 : IntKind.i64.wrap (8 * (k : Int)) = 8 * (k : Int) := by rw [IntKind.wrap_i64]; omega
      have x2 : IntKind.i64.wrap ((p : Int) + (q : Int)) = (p : Int) + q := by rw [IntKind.wrap_i64]; omega
      have x3 : (0 : Int) ≤ 8 * (k : Int) := by omega
      have x4 : 8 * (k : Int) ≤ 64 := by omega
      have x5 : (8 * (k : Int)).toNat = 8 * k := by omega
      have x6 : ((p : Int) + (q : Int)).toNat = p + q := by omega
      have x7 : (0 : Int) ≤ (p : Int) + q := by omega
      have x8 : IntKind.u8.wrap ((V : Int) / 2 ^ (8 * k)) = ((V / 256 ^ k % 256 : Nat) : Int) := by rw [IntKind.wrap_u8, hby]
      clear hby
      generalize V / 256 ^ k % 256 = d at *
      go_wp2_with fail
      go_region_with (go_at_call 80; refine (place_any _ _ _ _ (by omega) (by omega) (by omega)).mono ?_; rintro e w' ⟨rfl, rfl⟩; rw [hpi])
      all_goals go_wp2
      exact ⟨⟨k + 1, cur.set (p + q) d, by omega, by go_num, HN.out, hown.store _ _, (hbel.setCell hge.1 _).drew⟩, by simp [intOf]; omega⟩
    · obtain rfl : k = size := by omega
      have HD : Hid (cur = putL l p k big V) := hat.done
      clear hat
      go_wp2
      go_ret2
      exact ⟨⟨g, rfl, by rw [← HD.out]; exact hown⟩, hbel⟩
end Go.Proofs.YtaooidckmepdeaaDoor
