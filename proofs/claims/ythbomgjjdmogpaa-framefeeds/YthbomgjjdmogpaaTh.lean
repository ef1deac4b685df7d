/- takeHead, length. -/
import Derived.Test.YthbomgjjdmogpaaFe
import Derived.Deep.RegionHeld3
namespace Go.Proofs.Ythbomgjjdmogpaa
set_option linter.unusedSimpArgs false
set_option linter.unusedVariables false
open Go.RowKit
theorem set_take (hd : List Nat) (h c : Nat) (hl : h < hd.length) : (hd.set h c).take (h + 1) = hd.take h ++ [c] := by
  rw [List.take_succ_eq_append_getElem (by simpa using hl), List.take_set_of_le (Nat.le_refl _)]
  simp
theorem drop_head (l : List Nat) (k : Nat) (h : k < l.length) : l.drop k = l.getD k 0 :: l.drop (k + 1) := by
  rw [List.drop_eq_getElem_cons h]
  simp [List.getD, h]
theorem FBox.drew {w : World} {p : Nat} {hd : List Nat} {h : Nat} {v : Value} {sh : Bool} (b : FBox w p hd h v sh) : FBox w.drew p hd h v sh := ⟨b.box, b.len, b.lt⟩
/-- Behind takeHead, m bytes of b taken. -/
def THP (w : World) (p : Nat) (hd : List Nat) (h : Nat) (v : Value) (sh : Bool) (a : Option Addr) (cap : Nat) (l : List Nat) (m : Nat) (e : Ending) (w' : World) : Prop :=
  ∃ a' cap' hd', e = .returned (.slice a' (l.drop m).length cap') ∧ (∀ W E, InE W E a cap l → InE W E a' cap' (l.drop m)) ∧ FBox w' p hd' (h + m) v sh ∧ hd'.take (h + m) = hd.take h ++ l.take m ∧ Keeps [p] w w' ∧ w'.heap.size = w.heap.size
set_option maxRecDepth 100000 in
theorem takeHead_any (p : Nat) (hd : List Nat) (h : Nat) (v : Value) (sh : Bool) (a : Option Addr) (cap : Nat) (l : List Nat) (w : World) (hb : FBox w p hd h v sh) (hh : h ≤ 4) (hi : InE w [p] a cap l) :
    Calls Try.prog 19 #[.pointer (some ⟨p, 0, none⟩), .slice a l.length cap] w fun e w' => THP w p hd h v sh a cap l (min (4 - h) l.length) e w' := by
  obtain ⟨m, hm⟩ : ∃ m, m = min (4 - h) l.length := ⟨_, rfl⟩
  rw [← hm]
  have HM : Hid (m = min (4 - h) l.length) := hm
  have hm1 : m ≤ 4 - h ∧ m ≤ l.length ∧ (m = 4 - h ∨ m = l.length) := by omega
  clear hm
  have HI : Hid (InE w [p] a cap l) := hi
  have HB : Hid (FBox w p hd h v sh) := hb
  have hmx := hi.max
  have hle := hi.le
  unfold maxLen at hmx
  have HLL : Hid (l.length ≤ cap ∧ cap ≤ 9223372036854775807) := ⟨hle, by omega⟩
  clear hi hb hmx hle
  go_enter Try.func19, Try.ntmps19
  go_wp2_with fail
  go_loopw [1] (fun b wr => ∃ (k : Nat) (a' : Option Addr) (cap' : Nat) (hd' : List Nat), k ≤ m ∧ b = .slice a' (l.drop k).length cap' ∧ (∀ W E, InE W E a cap l → InE W E a' cap' (l.drop k)) ∧ FBox wr p hd' (h + k) v sh ∧ hd'.take (h + k) = hd.take h ++ l.take k ∧ Keeps [p] w wr ∧ wr.heap.size = w.heap.size) (fun b _ => match b with | .slice _ n _ => n | _ => 0)
  case atStart => exact ⟨0, a, cap, hd, by omega, rfl, fun W E h => h, HB.out, by simp, Keeps.refl _ _, rfl⟩
  case round =>
    obtain ⟨k, a', cap', hd', hk, rfl, hin, hbox, htk, hkp, hsz⟩ := hrel
    have HIN : Hid (∀ W E, InE W E a cap l → InE W E a' cap' (l.drop k)) := hin
    have HBX : Hid (FBox wr p hd' (h + k) v sh) := hbox
    have HTK : Hid (hd'.take (h + k) = hd.take h ++ l.take k) := htk
    have HKP : Hid (Keeps [p] w wr ∧ wr.heap.size = w.heap.size) := ⟨hkp, hsz⟩
    obtain ⟨z, z4, z5, z6, zf⟩ := hbox.cells
    have hin2 := (hin _ _ HI.out).keeps hkp (fun x hx => .inl hx)
    clear hin htk hkp hsz
    by_cases hlt : k < m
    · have hkl : k < l.length := by omega
      have hh4 : h + k < 4 := by omega
      have hd0 : 0 < (l.drop k).length := by rw [List.length_drop]; omega
      obtain ⟨b, off, rfl, hc, hl256⟩ := hin2.row 0 hd0
      have hbp : ¬ b = p := fun e => hin2.off hd0 _ rfl (by simp [e])
      have hz := z (h + k) hh4
      have hf1 := zf (h + k)
      have hf2 := zf 4
      have HLE : Hid ((l.drop k).length ≤ cap' ∧ cap' ≤ 9223372036854775807) := ⟨hin2.le, by have := hin2.max; unfold maxLen at this; omega⟩
      have HC1 : Hid (∀ W E, InE W E a cap l → InE W E (cutA (some ⟨b, off, none⟩) cap' 1) (cap' - 1) (l.drop (k + 1))) := by
        intro W E hE
        have := (HIN.out W E hE).cut 1
        rwa [List.drop_drop] at this
      have hg : (l.drop k).getD 0 0 = l.getD k 0 := by simp [List.getD]
      rw [hg] at hc hl256
      have HST : Hid (∀ x : World, FBox x p hd' (h + k) v sh → FBox ((x.setCell ⟨p, h + k, none⟩ (.int .u8 ((l.getD k 0 : Nat) : Int))).setCell ⟨p, 4, none⟩ (.int .i64 ((h + k + 1 : Nat) : Int))) p (hd'.set (h + k) (l.getD k 0)) (h + k + 1) v sh) := fun x hx => (hx.putHead (h + k) _ hh4 hl256).putHave (h + k + 1)
      have HT2 : Hid ((hd'.set (h + k) (l.getD k 0)).take (h + k + 1) = hd.take h ++ l.take (k + 1)) := by
        show _ = _
        rw [set_take _ _ _ (by rw [HBX.out.len]; exact hh4), HTK.out, List.append_assoc]
        congr 1
        rw [List.take_succ_eq_append_getElem hkl]
        simp [List.getD, hkl]
      have HDL : Hid ((l.drop k).length - 1 = (l.drop (k + 1)).length) := by show _ = _; simp only [List.length_drop]; omega
      generalize l.getD k 0 = c at *
      obtain ⟨n, hn⟩ : ∃ n, n = (l.drop k).length := ⟨_, rfl⟩
      rw [← hn] at HLE HDL hd0 ⊢
      clear hn hin2 z HIN HTK
      obtain ⟨hq, HQ⟩ : ∃ q : Nat, Hid (h + k = q) := ⟨_, rfl⟩
      have HBQ : Hid (FBox wr p hd' hq v sh) := by have := HBX.out; rw [HQ.out] at this; exact this
      clear HBX
      rw [HQ.out] at hh4 hz hf1 HST HT2 z4
      have HQ1 : Hid (h + (k + 1) = hq + 1) := by have := HQ.out; show _ = _; omega
      have hqI : (hq : Int) < 4 := by omega
      have HS1 : Hid ((wr.setCell ⟨p, hq, none⟩ (.int .u8 (c : Int))).drew.cell? ⟨p, 4, none⟩ = some (.int .i64 (hq : Int)) ∧ (wr.setCell ⟨p, hq, none⟩ (.int .u8 (c : Int))).drew.cell? ⟨b, off, none⟩ = some (.int .u8 (c : Int))) := by
        refine ⟨?_, ?_⟩
        · show (wr.setCell _ _).cell? _ = _
          rw [World.cell?_setCell_other _ _ _ _ (fun e => by injection e with e1 e2; omega)]; exact z4
        · show (wr.setCell _ _).cell? _ = _
          rw [World.cell?_setCell_other _ _ _ _ (fun e => by injection e with e1 e2; exact hbp e1.symm)]; exact hc
      go_wp2_with fail
      have hq4 : ¬ hq = 4 := by omega
      go_region_held3 (fun y : World => y.cell? ⟨p, 4, none⟩ = some (.int .i64 (hq : Int)) ∧ y.cell? ⟨b, off, none⟩ = some (.int .u8 (c : Int))) (first | exact ⟨z4, hc⟩ | exact HS1.out) (fail)
      all_goals go_wp2_with fail
      have e1 : (hq : Int) + 1 = ((hq + 1 : Nat) : Int) := by omega
      rw [e1]
      exact ⟨⟨k + 1, cutA (some ⟨b, off, none⟩) cap' 1, cap' - 1, hd'.set hq c, by omega, by rw [← HDL.out]; rfl, HC1.out, by rw [HQ1.out]; exact FBox.drew (HST.out wr HBQ.out), by rw [HQ1.out]; exact HT2.out, ((HKP.out.1.setCell ⟨p, hq, none⟩ _ (.inl (by simp))).setCell ⟨p, 4, none⟩ _ (.inl (by simp))).drew, by simpa using HKP.out.2⟩, by show n - 1 < n; omega⟩
    · have hmm : k = m := by omega
      subst hmm
      by_cases h4 : h + k < 4
      · have h0 : (l.drop k).length = 0 := by rw [List.length_drop]; omega
        have hhI : ((h + k : Nat) : Int) < 4 := by omega
        rw [h0]
        obtain ⟨hq, HQ⟩ : ∃ q : Nat, Hid (h + k = q) := ⟨_, rfl⟩
        rw [HQ.out] at h4 hhI z4 HBX HTK
        clear z
        go_wp2_with fail
        go_ret
        exact ⟨a', cap', hd', by rw [h0]; rfl, HIN.out, by rw [HQ.out]; exact HBX.out, by rw [HQ.out]; exact HTK.out, HKP.out.1, HKP.out.2⟩
      · have hhI : ¬ ((h + k : Nat) : Int) < 4 := by omega
        have hhd : decide (((h + k : Nat) : Int) < 4) = false := decide_eq_false hhI
        obtain ⟨hq, HQ⟩ : ∃ q : Nat, Hid (h + k = q) := ⟨_, rfl⟩
        rw [HQ.out] at hhI hhd z4 HBX HTK
        clear z
        go_wp2_with fail
        go_ret
        exact ⟨a', cap', hd', by rw [List.length_drop]; rfl, HIN.out, by rw [HQ.out]; exact HBX.out, by rw [HQ.out]; exact HTK.out, HKP.out.1, HKP.out.2⟩
theorem below_box {w : World} (o : Obj) : Below w.heap.size w (w.alloc o) := (Below.refl _ _).alloc (Nat.le_refl _) _
theorem horner32 (V c : Nat) (hV : V < 16777216) (hc : c < 256) : bits .or .u32 (IntKind.u32.wrap ((V : Int) * 256)) (c : Int) = ((V * 256 + c : Nat) : Int) := by
  have e : (V : Int) * 256 = ((V * 256 : Nat) : Int) := by simp
  have hw : IntKind.u32.wrap ((V * 256 : Nat) : Int) = ((V * 256 : Nat) : Int) := by rw [IntKind.wrap_u32]; omega
  rw [e, hw, u32_or_nat _ _ (by omega) (by omega), nat_join 8 _ _ (by omega) (by omega)]
theorem x1h (a b : Nat) (h0 : a < 256) (h1 : b < 256) (V1 : Nat) (e1 : V1 = a * 256 + b) : bits .or .u32 ((a : Int) * 256) (b : Int) = (V1 : Int) := by
  have hw : IntKind.u32.wrap ((a : Int) * 256) = (a : Int) * 256 := by rw [IntKind.wrap_u32]; omega
  rw [e1, ← hw]
  exact horner32 a b (by omega) h1
theorem be_val (a b c d : Nat) : be [a, b, c, d] = ((a * 256 + b) * 256 + c) * 256 + d := by rw [be_eq]; rfl
theorem run_index4 (w : World) (cs : List Value) (k : Nat) (u : Value) (h : k < 4) (hl : cs.length = 4) (hu : cs[k]? = some u) : (Instr.index 35 (.agg cs.toArray) (.int .i64 (k : Int))).run Try.prog w = .ok u w := by
  have hs : (sizeOf 5).run Try.prog w = .ok 1 w := by
    obtain ⟨i, hi, e⟩ := Option.map_eq_some_iff.1 Try.info5s
    simp [sizeOf, typeInfo, hi, e]
  simp [Instr.index, asIntOf, run_underlying Try.underlying35, part, isAgg, run_underlying Try.underlying5, hs, h, hu]
set_option maxRecDepth 100000 in
theorem length_any (hd : List Nat) (w : World) (hl : hd.length = 4) (hb : ∀ i, hd.getD i 0 < 256) :
    Calls Try.prog 20 #[.agg (cv hd).toArray] w fun e w' => e = .returned (.int .u32 ((be hd : Nat) : Int)) ∧ Below w.heap.size w w' := by
  match hd, hl with
  | [a, b, c, d], _ =>
    have h0 : a < 256 := hb 0
    have h1 : b < 256 := hb 1
    have h2 : c < 256 := hb 2
    have h3 : d < 256 := hb 3
    obtain ⟨V1, e1⟩ : ∃ V, V = a * 256 + b := ⟨_, rfl⟩
    obtain ⟨V2, e2⟩ : ∃ V, V = V1 * 256 + c := ⟨_, rfl⟩
    obtain ⟨V3, e3⟩ : ∃ V, V = V2 * 256 + d := ⟨_, rfl⟩
    have x0 : bits .or .u32 0 (a : Int) = (a : Int) := by have := u32_or_nat 0 a (by omega) (by omega); simpa using this
    have X1 : Hid (bits .or .u32 ((a : Int) * 256) (b : Int) = (V1 : Int)) := x1h a b h0 h1 V1 e1
    have X2 : Hid (bits .or .u32 ((V1 : Int) * 256 % 4294967296) (c : Int) = (V2 : Int)) := by show _ = _; rw [e2, ← IntKind.wrap_u32]; exact horner32 V1 c (by omega) h2
    have X3 : Hid (bits .or .u32 ((V2 : Int) * 256 % 4294967296) (d : Int) = (V3 : Int)) := by show _ = _; rw [e3, ← IntKind.wrap_u32]; exact horner32 V2 d (by omega) h3
    have y0 : IntKind.u32.wrap (a : Int) = (a : Int) := by rw [IntKind.wrap_u32]; omega
    have y1 : IntKind.u32.wrap (b : Int) = (b : Int) := by rw [IntKind.wrap_u32]; omega
    have y2 : IntKind.u32.wrap (c : Int) = (c : Int) := by rw [IntKind.wrap_u32]; omega
    have y3 : IntKind.u32.wrap (d : Int) = (d : Int) := by rw [IntKind.wrap_u32]; omega
    have HE : Hid (be [a, b, c, d] = V3) := by show _ = _; rw [be_val, e3, e2, e1]
    have e0 : (cv [a, b, c, d]).toArray = #[.int .u8 (a : Int), .int .u8 (b : Int), .int .u8 (c : Int), .int .u8 (d : Int)] := rfl
    rw [e0, HE.out]
    clear e0 e1 e2 e3 hb HE
    have i0 : ∀ x, (Instr.index 35 (.agg #[.int .u8 (a : Int), .int .u8 (b : Int), .int .u8 (c : Int), .int .u8 (d : Int)]) (.int .i64 0)).run Try.prog x = .ok (.int .u8 (a : Int)) x := fun x => run_index4 x _ 0 _ (by omega) rfl rfl
    have i1 : ∀ x, (Instr.index 35 (.agg #[.int .u8 (a : Int), .int .u8 (b : Int), .int .u8 (c : Int), .int .u8 (d : Int)]) (.int .i64 1)).run Try.prog x = .ok (.int .u8 (b : Int)) x := fun x => run_index4 x _ 1 _ (by omega) rfl rfl
    have i2 : ∀ x, (Instr.index 35 (.agg #[.int .u8 (a : Int), .int .u8 (b : Int), .int .u8 (c : Int), .int .u8 (d : Int)]) (.int .i64 2)).run Try.prog x = .ok (.int .u8 (c : Int)) x := fun x => run_index4 x _ 2 _ (by omega) rfl rfl
    have i3 : ∀ x, (Instr.index 35 (.agg #[.int .u8 (a : Int), .int .u8 (b : Int), .int .u8 (c : Int), .int .u8 (d : Int)]) (.int .i64 3)).run Try.prog x = .ok (.int .u8 (d : Int)) x := fun x => run_index4 x _ 3 _ (by omega) rfl rfl
    go_enter Try.func20, Try.ntmps20
    go_wp2_with fail
    go_loopw [2, 6] (fun v i wr => wr = w.alloc (.cells #[.int .u8 (a : Int), .int .u8 (b : Int), .int .u8 (c : Int), .int .u8 (d : Int)] 35) ∧ ((i = .int .i64 0 ∧ v = .int .u32 0) ∨ (i = .int .i64 1 ∧ v = .int .u32 a) ∨ (i = .int .i64 2 ∧ v = .int .u32 V1) ∨ (i = .int .i64 3 ∧ v = .int .u32 V2) ∨ (i = .int .i64 4 ∧ v = .int .u32 V3))) (fun _ i _ => 4 - (intOf i).toNat)
    case atStart => exact ⟨rfl, .inl ⟨rfl, rfl⟩⟩
    case round =>
      obtain ⟨rfl, hh⟩ := hrel
      rcases hh with ⟨rfl, rfl⟩ | ⟨rfl, rfl⟩ | ⟨rfl, rfl⟩ | ⟨rfl, rfl⟩ | ⟨rfl, rfl⟩
      · go_wp2_with fail
        exact ⟨⟨trivial, .inr (.inl ⟨rfl, rfl⟩)⟩, by decide⟩
      · go_wp2_with fail
        exact ⟨⟨trivial, .inr (.inr (.inl ⟨rfl, by rw [X1.out]⟩))⟩, by decide⟩
      · go_wp2_with fail
        exact ⟨⟨trivial, .inr (.inr (.inr (.inl ⟨rfl, by rw [X2.out]⟩)))⟩, by decide⟩
      · go_wp2_with fail
        exact ⟨⟨trivial, .inr (.inr (.inr (.inr ⟨rfl, by rw [X3.out]⟩)))⟩, by decide⟩
      · go_wp2_with fail
        go_ret
        exact ⟨rfl, below_box _⟩
end Go.Proofs.Ythbomgjjdmogpaa
