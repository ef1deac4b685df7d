/- agrees, for records and for bases. -/
import Derived.Test.YtnnljdnaipjoiaaOw
namespace Go.Proofs.Ytnnljdnaipjoiaa
set_option linter.unusedSimpArgs false
set_option linter.unusedVariables false
open Go.RowKit Go.MapKept
theorem fields48 : Try.prog.underlying 48 = some (.struct (Try.prog.fieldsOf 48)) := by kernel_rfl
theorem held48 : Try.prog.stoodInHeld 48 = false := by kernel_rfl
theorem list48 : (Try.prog.fieldsOf 48).toList.map (fun f => (f.name, f.type, f.offset)) = [("HasKey", 4, 0), ("Key", 9, 1), ("HasVal", 4, 2), ("Val", 9, 3), ("Time", 3, 4), ("Off", 3, 5)] := by kernel_rfl
theorem part4 (w : World) (cs : Array Value) (i : Nat) (v : Value) (h : cs[i]? = some v) : (part 4 cs i).run Try.prog w = .ok v w := by
  simp [part, isAgg, run_underlying Try.underlying4, h]
theorem six {β γ : Type} {g : β → γ} {l : List β} {x y z u v t : γ} (h : l.map g = [x, y, z, u, v, t]) : ∃ a b c d e f, l = [a, b, c, d, e, f] ∧ g a = x ∧ g b = y ∧ g c = z ∧ g d = u ∧ g e = v ∧ g f = t := by
  rcases l with _ | ⟨a, _ | ⟨b, _ | ⟨c, _ | ⟨d, _ | ⟨e, _ | ⟨f, _ | ⟨k, r⟩⟩⟩⟩⟩⟩⟩ <;> simp at h
  exact ⟨a, b, c, d, e, f, rfl, h⟩
theorem eqR_in (w : World) (a b : Rc) : (Op.equalIn 10000 48 (vR a) (vR b)).run Try.prog w = .ok (sameR a b) w := by
  unfold vR
  rw [show (10000 : Nat) = 9999 + 1 from rfl, run_equalIn_struct (P := Try.prog) w 9999 48 _ _ fields48 held48]
  have hl := list48
  generalize (Try.prog.fieldsOf 48).toList = fs at hl
  obtain ⟨f1, f2, f3, f4, f5, f6, rfl, h1, h2, h3, h4, h5, h6⟩ := six hl
  simp only [Prod.mk.injEq] at h1 h2 h3 h4 h5 h6
  obtain ⟨n1, t1, o1⟩ := h1
  obtain ⟨n2, t2, o2⟩ := h2
  obtain ⟨n3, t3, o3⟩ := h3
  obtain ⟨n4, t4, o4⟩ := h4
  obtain ⟨n5, t5, o5⟩ := h5
  obtain ⟨n6, t6, o6⟩ := h6
  obtain ⟨a1, a2, a3, a4, a5, a6⟩ := a
  obtain ⟨b1, b2, b3, b4, b5, b6⟩ := b
  simp only [Op.eqFields, n1, t1, o1, n2, t2, o2, n3, t3, o3, n4, t4, o4, n5, t5, o5, n6, t6, o6]
  by_cases e1 : a1 = b1
  · by_cases e2 : a2 = b2
    · by_cases e3 : a3 = b3
      · by_cases e4 : a4 = b4
        · by_cases e5 : a5 = b5 <;> by_cases e6 : a6 = b6 <;> simp [Rc.cells, sameR, part3, part9, part4, run_equalIn_bool (P := Try.prog) _ 9998 4 _ _ Try.underlying4, run_equalIn_string (P := Try.prog) _ 9998 9 _ _ Try.underlying9, run_equalIn_int (P := Try.prog) _ 9998 3 .i64 .i64 _ _ Try.underlying3, str_beq, Result.andThen, e1, e2, e3, e4, e5, e6]
        · simp [Rc.cells, sameR, part3, part9, part4, run_equalIn_bool (P := Try.prog) _ 9998 4 _ _ Try.underlying4, run_equalIn_string (P := Try.prog) _ 9998 9 _ _ Try.underlying9, str_beq, Result.andThen, e1, e2, e3, e4]
      · simp [Rc.cells, sameR, part3, part9, part4, run_equalIn_bool (P := Try.prog) _ 9998 4 _ _ Try.underlying4, run_equalIn_string (P := Try.prog) _ 9998 9 _ _ Try.underlying9, str_beq, Result.andThen, e1, e2, e3]
    · simp [Rc.cells, sameR, part3, part9, part4, run_equalIn_bool (P := Try.prog) _ 9998 4 _ _ Try.underlying4, run_equalIn_string (P := Try.prog) _ 9998 9 _ _ Try.underlying9, str_beq, Result.andThen, e1, e2]
  · simp [Rc.cells, sameR, part3, part9, part4, run_equalIn_bool (P := Try.prog) _ 9998 4 _ _ Try.underlying4, Result.andThen, e1]
theorem eqR (a b : Rc) : ∀ w, (binOp .eql 48 (.agg a.cells) (.agg b.cells)).run Try.prog w = .ok (.bool (sameR a b)) w := by
  intro w
  rw [run_eql_struct]
  have := eqR_in w a b
  unfold vR at this
  rw [this]
  rfl
/-- Behind agrees. -/
def AgS (w : World) (bf : Nat) (K F : SK → Option Rc) (k : SK) (r : Rc) (e : Ending) (w' : World) : Prop :=
  ∃ ok F', e = .returned (.bool ok) ∧ agr sameR K F k r = (if ok = true then some F' else none) ∧ MS w' bf F' ∧ w.grownBy w' (some bf)
def AgT (w : World) (bf : Nat) (K F : TK → Option Int) (k : TK) (r : Int) (e : Ending) (w' : World) : Prop :=
  ∃ ok F', e = .returned (.bool ok) ∧ agr sameI K F k r = (if ok = true then some F' else none) ∧ MT w' bf F' ∧ w.grownBy w' (some bf)
theorem MOpt.below {α : Type} {mk : α → Value} {f : α → Option Value} {w w' : World} {v : Option Nat} (h : MOpt w v mk f) (hb : Below w.heap.size w w') : MOpt w' v mk f := h.keep fun b e => hb.block b (h.lt b e)
theorem grown_below {w w' : World} (hb : Below w.heap.size w w') (b : Option Nat) : w.grownBy w' b := ⟨hb.os, hb.tape, hb.output, hb.size, fun k hk _ => hb.block k hk⟩
theorem grown_trans {w w1 w2 : World} {b : Option Nat} (h : w.grownBy w1 b) (k : w1.grownBy w2 b) : w.grownBy w2 b := ⟨k.os.trans h.os, k.tape.trans h.tape, k.output.trans h.output, Nat.le_trans h.size k.size, fun i hi hn => (k.block i (Nat.lt_of_lt_of_le hi h.size) hn).trans (h.block i hi hn)⟩
set_option maxRecDepth 100000 in
theorem agrS_any (vk : Option Nat) (bf : Nat) (K F : SK → Option Rc) (k : SK) (r : Rc) (w : World) (hk : MOpt w vk mkS (fun x => (K x).map vR)) (hf : MS w bf F) :
    Calls Try.prog 47 #[.map vk, .map (some bf), mkS k, vR r] w fun e w' => AgS w bf K F k r e w' := by
  obtain ⟨n, hm⟩ := hf
  have HK : Hid (∀ w', Below w.heap.size w w' → MOpt w' vk mkS (fun x => (K x).map vR)) := fun w' hb => hk.below hb
  have HF : Hid (∀ w', Below w.heap.size w w' → MapIs w' bf mkS (fun x => (F x).map vR) n) := fun w' hb => hm.below hb
  have HB1 : Hid (∀ o1 o2 : Obj, Below w.heap.size w ((w.alloc o1).alloc o2)) := fun o1 o2 => (below_box _).trans ((below_box _).mono (by simp))
  have HB2 : Hid (∀ o1 o2 o3 : Obj, Below w.heap.size w (((w.alloc o1).alloc o2).alloc o3)) := fun o1 o2 o3 => ((below_box _).trans ((below_box _).mono (by simp))).trans ((below_box _).mono (by simp; omega))
  have HA : Hid (∀ u, (K k).or (F k) = some u → ∀ w', Below w.heap.size w w' → AgS w bf K F k r (.returned (.bool (sameR u r))) w') := fun u hu w' hb => by
    refine ⟨sameR u r, F, rfl, ?_, ⟨n, hm.below hb⟩, grown_below hb _⟩
    unfold agr
    rw [hu]
  have HP : Hid (K k = none → F k = none → ∀ w1 w', Below w.heap.size w w1 → MapIs w' bf mkS (put (fun x => (F x).map vR) k (vR r)) (n + 1) → w1.grownBy w' (some bf) → AgS w bf K F k r (.returned (.bool true)) w') := fun h1 h2 w1 w' hb hm' hg => by
    refine ⟨true, (fun x => if x = k then some r else F x), rfl, ?_, ⟨n + 1, ?_⟩, grown_trans (grown_below hb _) hg⟩
    · unfold agr
      rw [h1, h2]
      rfl
    · rw [put_map] at hm'
      exact hm'
  clear hk hm
  generalize AgS w bf K F k r = AP at *
  obtain ⟨k0, k1, k2⟩ := k
  obtain ⟨r0, r1, r2, r3, r4, r5⟩ := r
  simp only [mkS, vR, Rc.cells]
  cases hK : K (k0, k1, k2) with
  | some u =>
    have hA := HA.out u (by rw [hK]; rfl)
    have HE : Hid (∀ w', Below w.heap.size w w' → AP (.returned (.bool (sameR u ⟨r0, r1, r2, r3, r4, r5⟩))) w') := hA
    have he := eqR u ⟨r0, r1, r2, r3, r4, r5⟩
    have HU : Hid (((K (k0, k1, k2)).map vR).getD (vR rz) = vR u) := by show _ = _; rw [hK]; rfl
    have HO : Hid (((K (k0, k1, k2)).map vR).isSome = true) := by show _ = _; rw [hK]; rfl
    clear hA HA HP hK
    obtain ⟨u0, u1, u2, u3, u4, u5⟩ := u
    simp only [Rc.cells] at he
    generalize sameR ⟨u0, u1, u2, u3, u4, u5⟩ ⟨r0, r1, r2, r3, r4, r5⟩ = R at *
    go_enter Try.func47, Try.ntmps47
    go_wp2_with (at_lookup; refine wpList_look rfl 56 _ _ rfl kbS Try.underlying56 (vR rz) zero48 vk rfl (HK.out _ (HB1.out _ _)) (k0, k1, k2) rfl (.agg #[.bool u0, .string u1, .bool u2, .string u3, .int .i64 u4, .int .i64 u5]) HU.out true HO.out ?_)
    exact HE.out _ (HB2.out _ _ _)
  | none =>
    have HU : Hid (((K (k0, k1, k2)).map vR).getD (vR rz) = vR rz) := by show _ = _; rw [hK]; rfl
    have HO : Hid (((K (k0, k1, k2)).map vR).isSome = false) := by show _ = _; rw [hK]; rfl
    cases hF : F (k0, k1, k2) with
    | some u =>
      have hA := HA.out u (by rw [hK, hF]; rfl)
      have HE : Hid (∀ w', Below w.heap.size w w' → AP (.returned (.bool (sameR u ⟨r0, r1, r2, r3, r4, r5⟩))) w') := hA
      have he := eqR u ⟨r0, r1, r2, r3, r4, r5⟩
      have HU2 : Hid (((F (k0, k1, k2)).map vR).getD (vR rz) = vR u) := by show _ = _; rw [hF]; rfl
      have HO2 : Hid (((F (k0, k1, k2)).map vR).isSome = true) := by show _ = _; rw [hF]; rfl
      clear hA HA HP hK hF
      obtain ⟨u0, u1, u2, u3, u4, u5⟩ := u
      simp only [Rc.cells] at he
      generalize sameR ⟨u0, u1, u2, u3, u4, u5⟩ ⟨r0, r1, r2, r3, r4, r5⟩ = R at *
      have tok : True := trivial
      go_enter Try.func47, Try.ntmps47
      go_wp2_with (first
        | (at_lookup; have _t := tok; refine wpList_look rfl 56 _ _ rfl kbS Try.underlying56 (vR rz) zero48 vk rfl (HK.out _ (HB1.out _ _)) (k0, k1, k2) rfl (.agg #[.bool false, .string ⟨#[]⟩, .bool false, .string ⟨#[]⟩, .int .i64 0, .int .i64 0]) HU.out false HO.out ?_; clear _t tok)
        | (at_lookup; refine wpList_look rfl 56 _ _ rfl kbS Try.underlying56 (vR rz) zero48 (some bf) rfl (.inr ⟨bf, n, rfl, HF.out _ (HB2.out _ _ _)⟩) (k0, k1, k2) rfl (.agg #[.bool u0, .string u1, .bool u2, .string u3, .int .i64 u4, .int .i64 u5]) HU2.out true HO2.out ?_))
      exact HE.out _ (HB2.out _ _ _)
    | none =>
      have hP := HP.out hK hF
      have HE : Hid (∀ w1 w', Below w.heap.size w w1 → MapIs w' bf mkS (put (fun x => (F x).map vR) (k0, k1, k2) (vR ⟨r0, r1, r2, r3, r4, r5⟩)) (n + 1) → w1.grownBy w' (some bf) → AP (.returned (.bool true)) w') := hP
      have HU2 : Hid (((F (k0, k1, k2)).map vR).getD (vR rz) = vR rz) := by show _ = _; rw [hF]; rfl
      have HO2 : Hid (((F (k0, k1, k2)).map vR).isSome = false) := by show _ = _; rw [hF]; rfl
      clear hP HA HP hK hF
      have tok : True := trivial
      go_enter Try.func47, Try.ntmps47
      go_wp2_with (first
        | (at_lookup; have _t := tok; refine wpList_look rfl 56 _ _ rfl kbS Try.underlying56 (vR rz) zero48 vk rfl (HK.out _ (HB1.out _ _)) (k0, k1, k2) rfl (.agg #[.bool false, .string ⟨#[]⟩, .bool false, .string ⟨#[]⟩, .int .i64 0, .int .i64 0]) HU.out false HO.out ?_; clear _t tok)
        | (at_lookup; refine wpList_look rfl 56 _ _ rfl kbS Try.underlying56 (vR rz) zero48 (some bf) rfl (.inr ⟨bf, n, rfl, HF.out _ (HB2.out _ _ _)⟩) (k0, k1, k2) rfl (.agg #[.bool false, .string ⟨#[]⟩, .bool false, .string ⟨#[]⟩, .int .i64 0, .int .i64 0]) HU2.out false HO2.out ?_)
        | (at_mapUpdate; refine wpList_put rfl 56 _ _ _ rfl kbS Try.underlying56 bf n rfl (HF.out _ (HB2.out _ _ _)) (k0, k1, k2) rfl (vR ⟨r0, r1, r2, r3, r4, r5⟩) rfl ?_; intro w4 hm4 hg4 hz4))
      exact HE.out _ _ (HB2.out _ _ _) hm4 hg4
set_option maxRecDepth 100000 in
theorem agrT_any (vk : Option Nat) (bf : Nat) (K F : TK → Option Int) (k : TK) (r : Int) (w : World) (hk : MOpt w vk mkT (fun x => (K x).map vI)) (hf : MT w bf F) :
    Calls Try.prog 49 #[.map vk, .map (some bf), mkT k, .int .i64 r] w fun e w' => AgT w bf K F k r e w' := by
  obtain ⟨n, hm⟩ := hf
  have HK : Hid (∀ w', Below w.heap.size w w' → MOpt w' vk mkT (fun x => (K x).map vI)) := fun w' hb => hk.below hb
  have HF : Hid (∀ w', Below w.heap.size w w' → MapIs w' bf mkT (fun x => (F x).map vI) n) := fun w' hb => hm.below hb
  have HB1 : Hid (∀ o1 : Obj, Below w.heap.size w (w.alloc o1)) := fun o1 => below_box _
  have HA : Hid (∀ u, (K k).or (F k) = some u → ∀ w', Below w.heap.size w w' → AgT w bf K F k r (.returned (.bool (u == r))) w') := fun u hu w' hb => by
    have e : (u == r) = sameI u r := by unfold sameI; by_cases h : u = r <;> simp [h]
    rw [e]
    refine ⟨sameI u r, F, rfl, ?_, ⟨n, hm.below hb⟩, grown_below hb _⟩
    unfold agr
    rw [hu]
  have HP : Hid (K k = none → F k = none → ∀ w1 w', Below w.heap.size w w1 → MapIs w' bf mkT (put (fun x => (F x).map vI) k (vI r)) (n + 1) → w1.grownBy w' (some bf) → AgT w bf K F k r (.returned (.bool true)) w') := fun h1 h2 w1 w' hb hm' hg => by
    refine ⟨true, (fun x => if x = k then some r else F x), rfl, ?_, ⟨n + 1, ?_⟩, grown_trans (grown_below hb _) hg⟩
    · unfold agr
      rw [h1, h2]
      rfl
    · rw [put_map] at hm'
      exact hm'
  clear hk hm
  generalize AgT w bf K F k r = AP at *
  obtain ⟨k0, k1, k2, k3⟩ := k
  simp only [mkT]
  cases hK : K (k0, k1, k2, k3) with
  | some u =>
    have hA := HA.out u (by rw [hK]; rfl)
    have HE : Hid (∀ w', Below w.heap.size w w' → AP (.returned (.bool (u == r))) w') := hA
    have HU : Hid (((K (k0, k1, k2, k3)).map vI).getD (.int .i64 0) = .int .i64 u) := by show _ = _; rw [hK]; rfl
    have HO : Hid (((K (k0, k1, k2, k3)).map vI).isSome = true) := by show _ = _; rw [hK]; rfl
    clear hA HA HP hK
    go_enter Try.func49, Try.ntmps49
    go_wp2_with (at_lookup; refine wpList_look rfl 57 _ _ rfl kbT Try.underlying57 (.int .i64 0) zero3 vk rfl (HK.out _ (HB1.out _)) (k0, k1, k2, k3) rfl (.int .i64 u) HU.out true HO.out ?_)
    exact HE.out _ (HB1.out _)
  | none =>
    have HU : Hid (((K (k0, k1, k2, k3)).map vI).getD (.int .i64 0) = .int .i64 0) := by show _ = _; rw [hK]; rfl
    have HO : Hid (((K (k0, k1, k2, k3)).map vI).isSome = false) := by show _ = _; rw [hK]; rfl
    cases hF : F (k0, k1, k2, k3) with
    | some u =>
      have hA := HA.out u (by rw [hK, hF]; rfl)
      have HE : Hid (∀ w', Below w.heap.size w w' → AP (.returned (.bool (u == r))) w') := hA
      have HU2 : Hid (((F (k0, k1, k2, k3)).map vI).getD (.int .i64 0) = .int .i64 u) := by show _ = _; rw [hF]; rfl
      have HO2 : Hid (((F (k0, k1, k2, k3)).map vI).isSome = true) := by show _ = _; rw [hF]; rfl
      clear hA HA HP hK hF
      have tok : True := trivial
      go_enter Try.func49, Try.ntmps49
      go_wp2_with (first
        | (at_lookup; have _t := tok; refine wpList_look rfl 57 _ _ rfl kbT Try.underlying57 (.int .i64 0) zero3 vk rfl (HK.out _ (HB1.out _)) (k0, k1, k2, k3) rfl (.int .i64 0) HU.out false HO.out ?_; clear _t tok)
        | (at_lookup; refine wpList_look rfl 57 _ _ rfl kbT Try.underlying57 (.int .i64 0) zero3 (some bf) rfl (.inr ⟨bf, n, rfl, HF.out _ (HB1.out _)⟩) (k0, k1, k2, k3) rfl (.int .i64 u) HU2.out true HO2.out ?_))
      exact HE.out _ (HB1.out _)
    | none =>
      have hP := HP.out hK hF
      have HE : Hid (∀ w1 w', Below w.heap.size w w1 → MapIs w' bf mkT (put (fun x => (F x).map vI) (k0, k1, k2, k3) (vI r)) (n + 1) → w1.grownBy w' (some bf) → AP (.returned (.bool true)) w') := hP
      have HU2 : Hid (((F (k0, k1, k2, k3)).map vI).getD (.int .i64 0) = .int .i64 0) := by show _ = _; rw [hF]; rfl
      have HO2 : Hid (((F (k0, k1, k2, k3)).map vI).isSome = false) := by show _ = _; rw [hF]; rfl
      clear hP HA HP hK hF
      have tok : True := trivial
      go_enter Try.func49, Try.ntmps49
      go_wp2_with (first
        | (at_lookup; have _t := tok; refine wpList_look rfl 57 _ _ rfl kbT Try.underlying57 (.int .i64 0) zero3 vk rfl (HK.out _ (HB1.out _)) (k0, k1, k2, k3) rfl (.int .i64 0) HU.out false HO.out ?_; clear _t tok)
        | (at_lookup; refine wpList_look rfl 57 _ _ rfl kbT Try.underlying57 (.int .i64 0) zero3 (some bf) rfl (.inr ⟨bf, n, rfl, HF.out _ (HB1.out _)⟩) (k0, k1, k2, k3) rfl (.int .i64 0) HU2.out false HO2.out ?_)
        | (at_mapUpdate; refine wpList_put rfl 57 _ _ _ rfl kbT Try.underlying57 bf n rfl (HF.out _ (HB1.out _)) (k0, k1, k2, k3) rfl (vI r) rfl ?_; intro w4 hm4 hg4 hz4))
      exact HE.out _ _ (HB1.out _) hm4 hg4
end Go.Proofs.Ytnnljdnaipjoiaa
