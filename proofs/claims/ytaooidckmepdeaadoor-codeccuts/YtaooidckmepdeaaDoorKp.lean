/- Requests and responses as bytes, on plain lists. -/
import Derived.Test.YtaooidckmepdeaaDoorBl
namespace Go.Proofs.YtaooidckmepdeaaDoor
set_option linter.unusedSimpArgs false
set_option linter.unusedVariables false
open Go.RowKit
/-- Bytes, or what may not be. -/
abbrev Ls := Option (List Nat)
def oa : Ls → Ls → Ls
  | some x, some y => some (x ++ y)
  | _, _ => none
theorem oa_some {a b : Ls} {L : List Nat} (h : oa a b = some L) : ∃ x y, a = some x ∧ b = some y ∧ L = x ++ y := by
  cases a with
  | none => simp [oa] at h
  | some x =>
    cases b with
    | none => simp [oa] at h
    | some y => simp [oa] at h; exact ⟨x, y, rfl, rfl, h.symm⟩
theorem oa_none (a : Ls) : oa a none = none := by cases a <;> rfl
theorem none_oa (a : Ls) : oa none a = none := rfl
theorem oa_nil (a : Ls) : oa a (some []) = a := by cases a <;> simp [oa]
theorem nil_oa (a : Ls) : oa (some []) a = a := by cases a <;> simp [oa]
theorem oa_assoc (a b c : Ls) : oa (oa a b) c = oa a (oa b c) := by
  cases a <;> cases b <;> cases c <;> simp [oa]
/-- All are bytes. -/
def Byt (l : List Nat) : Prop := ∀ c, c ∈ l → c < 256
theorem Byt.left {a b : List Nat} (h : Byt (a ++ b)) : Byt a := fun c hc => h c (List.mem_append_left _ hc)
theorem Byt.right {a b : List Nat} (h : Byt (a ++ b)) : Byt b := fun c hc => h c (List.mem_append_right _ hc)
theorem Byt.app {a b : List Nat} (h : Byt a) (k : Byt b) : Byt (a ++ b) := fun c hc => by
  rcases List.mem_append.1 hc with q | q
  · exact h c q
  · exact k c q
theorem Byt.drop {a : List Nat} (h : Byt a) (n : Nat) : Byt (a.drop n) := fun c hc => h c (List.mem_of_mem_drop hc)
theorem Byt.getD {a : List Nat} (h : Byt a) : ∀ i, a.getD i 0 < 256 := lt_mem h
/-- What is written is read, and what is read is written so. -/
structure Pr {α : Type} (V : α → Prop) (en : α → Ls) (pa : Ls → α × Ls) : Prop where
  back : ∀ x L t, V x → en x = some L → pa (some (L ++ t)) = (x, some t)
  once : ∀ l x t, Byt l → pa (some l) = (x, some t) → V x ∧ ∃ L, en x = some L ∧ l = L ++ t
  bad : (pa none).2 = none
/-- A number of n bytes. -/
def gN (n : Nat) : Ls → Nat × Ls
  | some l => if n ≤ l.length then (getV l 0 n true, some (l.drop n)) else (0, none)
  | none => (0, none)
def eNat (n : Nat) (v : Int) : Ls := if 0 ≤ v ∧ v < ((256 ^ n : Nat) : Int) then some (lay n v.toNat) else none
def gNat (n : Nat) (s : Ls) : Int × Ls := (((gN n s).1 : Nat), (gN n s).2)
theorem gN_lay (n V : Nat) (t : List Nat) (h : V < 256 ^ n) : gN n (some (lay n V ++ t)) = (V, some t) := by
  unfold gN
  have h1 := get_mid [] t n V
  rw [List.nil_append] at h1
  simp only [List.length_append, lay_len, Nat.le_add_right, if_true, List.length_nil] at h1 ⊢
  rw [h1, Nat.mod_eq_of_lt h, List.drop_left' (lay_len n V)]
theorem gN_some {n : Nat} {l : List Nat} {v : Nat} {t : List Nat} (hl : Byt l) (h : gN n (some l) = (v, some t)) : l = lay n v ++ t ∧ v < 256 ^ n := by
  unfold gN at h
  simp only at h
  split at h
  · rename_i hn
    simp only [Prod.mk.injEq, Option.some.injEq] at h
    obtain ⟨rfl, rfl⟩ := h
    refine ⟨?_, getV_lt l 0 n hl.getD⟩
    rw [lay_getV l 0 n hl (by omega), List.drop_zero, List.take_append_drop]
  · simp at h
theorem gN_none (n : Nat) : gN n none = (0, none) := rfl
theorem gN_le {n : Nat} {l : List Nat} {v : Nat} {t : List Nat} (h : gN n (some l) = (v, some t)) : t.length ≤ l.length := by
  unfold gN at h
  simp only at h
  split at h
  · simp only [Prod.mk.injEq, Option.some.injEq] at h
    obtain ⟨_, rfl⟩ := h
    simp
  · simp at h
theorem pr_nat (n : Nat) : Pr (fun _ => True) (eNat n) (gNat n) := by
  refine ⟨fun x L t _ h => ?_, fun l x t hl h => ?_, rfl⟩
  · unfold eNat at h
    split at h
    · rename_i hx
      simp only [Option.some.injEq] at h
      subst h
      have hv : x.toNat < 256 ^ n := by omega
      unfold gNat
      rw [gN_lay n _ t hv]
      simp only [Prod.mk.injEq, and_true]
      omega
    · simp at h
  · unfold gNat at h
    simp only [Prod.mk.injEq] at h
    obtain ⟨rfl, h2⟩ := h
    obtain ⟨e, hv⟩ := gN_some (v := (gN n (some l)).1) (t := t) hl (by rw [← h2])
    refine ⟨trivial, lay n (gN n (some l)).1, ?_, e⟩
    unfold eNat
    rw [if_pos ⟨by omega, by omega⟩, Int.toNat_natCast]
/-- An int and its digits. -/
def un (v : Int) : Nat := (v % 18446744073709551616).toNat
def iv (u : Nat) : Int := if u < 9223372036854775808 then (u : Int) else (u : Int) - 18446744073709551616
def In64 (v : Int) : Prop := -9223372036854775808 ≤ v ∧ v ≤ 9223372036854775807
theorem un_lt (v : Int) : un v < 18446744073709551616 := by unfold un; omega
theorem iv_un {v : Int} (h : In64 v) : iv (un v) = v := by
  obtain ⟨h1, h2⟩ := h
  unfold iv un
  split <;> omega
theorem un_iv {u : Nat} (h : u < 18446744073709551616) : un (iv u) = u ∧ In64 (iv u) := by
  unfold iv un In64
  split <;> omega
def eInt (v : Int) : List Nat := lay 8 (un v)
def gI (s : Ls) : Int × Ls := (iv (gN 8 s).1, (gN 8 s).2)
theorem pr_int : Pr In64 (fun v => some (eInt v)) gI := by
  refine ⟨fun x L t hx h => ?_, fun l x t hl h => ?_, rfl⟩
  · simp only [Option.some.injEq] at h
    subst h
    unfold gI eInt
    rw [gN_lay 8 _ t (un_lt x)]
    simp only [iv_un hx]
  · unfold gI at h
    simp only [Prod.mk.injEq] at h
    obtain ⟨rfl, h2⟩ := h
    obtain ⟨e, hv⟩ := gN_some (v := (gN 8 (some l)).1) (t := t) hl (by rw [← h2])
    obtain ⟨q1, q2⟩ := un_iv (show (gN 8 (some l)).1 < 18446744073709551616 from hv)
    refine ⟨q2, _, rfl, ?_⟩
    unfold eInt
    rw [q1]
    exact e
/-- A text behind its length. -/
def eText (s : ByteArray) : Ls := if s.size ≤ 65535 then some (lay 2 s.size ++ sb s) else none
def gB : Nat × Ls → ByteArray × Ls
  | (n, some l) => if n ≤ l.length then (strN (l.take n), some (l.drop n)) else (⟨#[]⟩, none)
  | (_, none) => (⟨#[]⟩, none)
def gT (s : Ls) : ByteArray × Ls := gB (gN 2 s)
theorem sb_byt (s : ByteArray) : Byt (sb s) := fun c hc => by
  simp only [sb, List.mem_map] at hc
  obtain ⟨x, _, rfl⟩ := hc
  exact x.toNat_lt
theorem pr_text : Pr (fun _ => True) eText gT := by
  refine ⟨fun x L t _ h => ?_, fun l x t hl h => ?_, rfl⟩
  · unfold eText at h
    split at h
    · rename_i hx
      simp only [Option.some.injEq] at h
      subst h
      unfold gT
      rw [List.append_assoc, gN_lay 2 x.size _ (by omega)]
      unfold gB
      simp only
      rw [if_pos (by rw [List.length_append, sb_len]; omega), List.take_left' (sb_len x), List.drop_left' (sb_len x), strN_sb]
    · simp at h
  · unfold gT at h
    cases hg : gN 2 (some l) with
    | mk n s1 =>
      rw [hg] at h
      cases s1 with
      | none => simp [gB] at h
      | some l1 =>
        obtain ⟨e, hn⟩ := gN_some hl hg
        unfold gB at h
        simp only at h
        split at h
        · rename_i hle
          simp only [Prod.mk.injEq, Option.some.injEq] at h
          obtain ⟨rfl, rfl⟩ := h
          have hb : Byt l1 := by rw [e] at hl; exact hl.right
          have hs : sb (strN (l1.take n)) = l1.take n := sb_strN _ (fun c hc => hb c (List.mem_of_mem_take hc))
          have hz : (strN (l1.take n)).size = n := by rw [← sb_len, hs, List.length_take]; omega
          refine ⟨trivial, lay 2 n ++ l1.take n, ?_, ?_⟩
          · unfold eText
            rw [hz, hs, if_pos (by omega)]
          · rw [List.append_assoc, List.take_append_drop]
            exact e
        · simp at h
/-- A number up to the greatest that may be. -/
def gUp (n most : Nat) (s : Ls) : Nat × Ls := if most < (gN n s).1 then (0, none) else gN n s
theorem gUp_lay (n most V : Nat) (t : List Nat) (h : V < 256 ^ n) (hm : V ≤ most) : gUp n most (some (lay n V ++ t)) = (V, some t) := by
  unfold gUp
  rw [gN_lay n V t h]
  simp only
  rw [if_neg (by omega)]
theorem gUp_some {n most : Nat} {l : List Nat} {v : Nat} {t : List Nat} (hl : Byt l) (h : gUp n most (some l) = (v, some t)) : l = lay n v ++ t ∧ v < 256 ^ n ∧ v ≤ most := by
  unfold gUp at h
  split at h
  · simp at h
  · rename_i hm
    obtain ⟨a, b⟩ := gN_some hl h
    rw [h] at hm
    exact ⟨a, b, by simp only at hm; omega⟩
theorem gUp_none (n most : Nat) : gUp n most none = (0, none) := by unfold gUp; simp [gN]
/-- A flag. -/
def gFlag (s : Ls) : Int × Ls := (((gUp 1 1 s).1 : Nat), (gUp 1 1 s).2)
theorem pr_flag : Pr (fun v => v = 0 ∨ v = 1) (eNat 1) gFlag := by
  refine ⟨fun x L t hx h => ?_, fun l x t hl h => ?_, by unfold gFlag; rw [gUp_none]⟩
  · unfold eNat at h
    rw [if_pos (by omega)] at h
    simp only [Option.some.injEq] at h
    subst h
    unfold gFlag
    rw [gUp_lay 1 1 x.toNat t (by omega) (by omega)]
    simp only [Prod.mk.injEq, and_true]
    omega
  · unfold gFlag at h
    simp only [Prod.mk.injEq] at h
    obtain ⟨rfl, h2⟩ := h
    obtain ⟨e, hv, hm⟩ := gUp_some (v := (gUp 1 1 (some l)).1) (t := t) hl (by rw [← h2])
    refine ⟨by omega, lay 1 (gUp 1 1 (some l)).1, ?_, e⟩
    unfold eNat
    rw [if_pos ⟨by omega, by omega⟩, Int.toNat_natCast]
/-- A record. -/
def eIf (c : Bool) (s : ByteArray) : Ls := if c then eText s else some []
def okR (r : Rc) : Bool := decide (r.o = 0) && (r.hk || decide (r.k.size = 0)) && (r.hv || decide (r.v.size = 0))
def eRec (r : Rc) : Ls := if okR r = true then oa (some (lay 1 (headB r.hk r.hv))) (oa (eIf r.hk r.k) (oa (eIf r.hv r.v) (some (eInt r.t)))) else none
def gIf (c : Bool) (s : Ls) : ByteArray × Ls := if c then gT s else (⟨#[]⟩, s)
def gRec (s : Ls) : Rc × Ls :=
  let m := gUp 1 3 s
  let k := gIf (m.1 % 2 == 1) m.2
  let v := gIf (m.1 / 2 == 1) k.2
  let t := gI v.2
  (⟨m.1 % 2 == 1, k.1, m.1 / 2 == 1, v.1, t.1, 0⟩, t.2)
theorem size_zero {s : ByteArray} (h : s.size = 0) : s = ⟨#[]⟩ := by
  have h1 : sb s = [] := List.eq_nil_of_length_eq_zero (by rw [sb_len, h])
  rw [← strN_sb s, h1]
  exact strN_nil
theorem strN_nil0 : (⟨#[]⟩ : ByteArray).size = 0 := rfl
theorem gIf_back (c : Bool) (s : ByteArray) (L t : List Nat) (h : eIf c s = some L) (h0 : (c || decide (s.size = 0)) = true) : gIf c (some (L ++ t)) = (s, some t) := by
  unfold eIf at h
  unfold gIf
  cases c with
  | true => simp only [if_true] at h ⊢; exact pr_text.back s L t trivial h
  | false =>
    simp only [Bool.false_or, decide_eq_true_eq] at h0
    simp only [Bool.false_eq_true, if_false, Option.some.injEq] at h
    subst h
    rw [size_zero h0]; simp
theorem gIf_once {c : Bool} {l : List Nat} {s : ByteArray} {t : List Nat} (hl : Byt l) (h : gIf c (some l) = (s, some t)) : (c || decide (s.size = 0)) = true ∧ ∃ L, eIf c s = some L ∧ l = L ++ t := by
  unfold gIf at h
  unfold eIf
  cases c with
  | true =>
    simp only [if_true] at h ⊢
    exact ⟨rfl, (pr_text.once l s t hl h).2⟩
  | false =>
    simp at h
    obtain ⟨rfl, rfl⟩ := h
    exact ⟨by simp [strN_nil0], [], by simp, by simp⟩
theorem gIf_bad (c : Bool) : (gIf c none).2 = none := by cases c <;> rfl
theorem head_bits (hk hv : Bool) : (headB hk hv % 2 == 1) = hk ∧ (headB hk hv / 2 == 1) = hv ∧ headB hk hv ≤ 3 := by
  cases hk <;> cases hv <;> decide
theorem gI_bad : (gI none).2 = none := rfl
theorem pr_rec : Pr (fun r => In64 r.t) eRec gRec := by
  refine ⟨fun r L t hr h => ?_, fun l r t hl h => ?_, ?_⟩
  · unfold eRec at h
    split at h
    · rename_i hok
      simp only [okR, Bool.and_eq_true, decide_eq_true_eq] at hok
      obtain ⟨⟨h0, h1⟩, h2⟩ := hok
      obtain ⟨a, r1, ea, k1, rfl⟩ := oa_some h
      obtain ⟨b, r2, eb, k2, rfl⟩ := oa_some k1
      obtain ⟨c, d, ec, ed, rfl⟩ := oa_some k2
      simp only [Option.some.injEq] at ea ed
      subst ea
      obtain ⟨p1, p2, p3⟩ := head_bits r.hk r.hv
      unfold gRec
      simp only [List.append_assoc]
      rw [gUp_lay 1 3 _ _ (by omega) p3]
      simp only [p1, p2]
      rw [gIf_back r.hk r.k b _ eb (by simpa using h1)]
      simp only
      rw [gIf_back r.hv r.v c _ ec (by simpa using h2)]
      simp only
      rw [pr_int.back r.t d t hr (by rw [ed])]
      obtain ⟨hk, k, hv, v, tt, o⟩ := r
      simp only at h0
      rw [h0]
    · simp at h
  · unfold gRec at h
    simp only [Prod.mk.injEq] at h
    obtain ⟨hr, h⟩ := h
    cases hm : gUp 1 3 (some l) with
    | mk m s1 =>
      rw [hm] at h hr
      simp only at h hr
      cases s1 with
      | none =>
        have h1 := gIf_bad (m % 2 == 1)
        rw [h1] at h
        rw [gIf_bad] at h
        simp [gI_bad] at h
      | some l1 =>
        obtain ⟨e1, hv1, hm3⟩ := gUp_some hl hm
        have hl1 : Byt l1 := by rw [e1] at hl; exact hl.right
        cases hk : gIf (m % 2 == 1) (some l1) with
        | mk k s2 =>
          rw [hk] at h hr
          simp only at h hr
          cases s2 with
          | none => rw [gIf_bad] at h; simp [gI_bad] at h
          | some l2 =>
            obtain ⟨o1, A, eA, e2⟩ := gIf_once hl1 hk
            have hl2 : Byt l2 := by rw [e2] at hl1; exact hl1.right
            cases hv : gIf (m / 2 == 1) (some l2) with
            | mk v s3 =>
              rw [hv] at h hr
              simp only at h hr
              cases s3 with
              | none => simp [gI_bad] at h
              | some l3 =>
                obtain ⟨o2, C, eC, e3⟩ := gIf_once hl2 hv
                have hl3 : Byt l3 := by rw [e3] at hl2; exact hl2.right
                obtain ⟨o3, D, eD, e4⟩ := pr_int.once l3 (gI (some l3)).1 t hl3 (by rw [← h])
                have hh : headB (m % 2 == 1) (m / 2 == 1) = m := head_canon m hm3
                subst hr
                refine ⟨o3, lay 1 m ++ (A ++ (C ++ D)), ?_, by rw [e1, e2, e3, e4]; simp⟩
                unfold eRec
                rw [if_pos (by simp only [okR, o1, o2]; decide)]
                simp only
                rw [hh, eA, eC]
                simp only [Option.some.injEq] at eD
                rw [eD]
                rfl
  · unfold gRec
    simp only [gUp_none]
    rw [gIf_bad, gIf_bad, gI_bad]
/-- A batch. -/
def eBat (b : Ba) : Ls := if chkB b = 0 then some (encBL b) else none
section
variable {α : Type}
def eL (en : α → Ls) : List α → Ls
  | [] => some []
  | x :: r => oa (en x) (eL en r)
def eRow (en : α → Ls) (l : List α) : Ls := if l.length ≤ 65535 then oa (some (lay 2 l.length)) (eL en l) else none
def gC (x : α) : List α × Ls → List α × Ls
  | (xs, some l) => (x :: xs, some l)
  | (_, none) => ([], none)
def gL (pa : Ls → α × Ls) : Nat → Ls → List α × Ls
  | 0, s => ([], s)
  | k + 1, s => if (pa s).2 = none then ([], none) else gC (pa s).1 (gL pa k (pa s).2)
def gRow (pa : Ls → α × Ls) (s : Ls) : List α × Ls := gL pa (gN 2 s).1 (gN 2 s).2
theorem eL_app (en : α → Ls) (a b : List α) : eL en (a ++ b) = oa (eL en a) (eL en b) := by
  induction a with
  | nil => simp [eL, nil_oa]
  | cons x r ih => simp only [List.cons_append, eL, ih, oa_assoc]
theorem gL_back {V : α → Prop} {en : α → Ls} {pa : Ls → α × Ls} (p : Pr V en pa) : ∀ (l : List α) (L t : List Nat), (∀ x, x ∈ l → V x) → eL en l = some L → gL pa l.length (some (L ++ t)) = (l, some t) := by
  intro l
  induction l with
  | nil => intro L t _ h; simp [eL] at h; subst h; simp [gL]
  | cons x r ih =>
    intro L t hV h
    obtain ⟨a, b, ea, eb, rfl⟩ := oa_some h
    have h1 := p.back x a (b ++ t) (hV x (by simp)) ea
    rw [List.append_assoc]
    simp only [List.length_cons, gL]
    rw [h1]
    simp only [reduceCtorEq, if_false]
    rw [ih b t (fun y hy => hV y (by simp [hy])) eb]
    rfl
theorem gL_once {V : α → Prop} {en : α → Ls} {pa : Ls → α × Ls} (p : Pr V en pa) : ∀ (n : Nat) (l : List Nat) (xs : List α) (t : List Nat), Byt l → gL pa n (some l) = (xs, some t) → xs.length = n ∧ (∀ x, x ∈ xs → V x) ∧ ∃ L, eL en xs = some L ∧ l = L ++ t := by
  intro n
  induction n with
  | zero =>
    intro l xs t hl h
    simp [gL] at h
    obtain ⟨rfl, rfl⟩ := h
    exact ⟨rfl, by simp, [], rfl, by simp⟩
  | succ n ih =>
    intro l xs t hl h
    simp only [gL] at h
    split at h
    · simp at h
    · rename_i hne
      cases hp : pa (some l) with
      | mk x s1 =>
        rw [hp] at h hne
        simp only at h hne
        cases s1 with
        | none => simp at hne
        | some l1 =>
          obtain ⟨v, A, eA, e1⟩ := p.once l x l1 hl hp
          cases hg : gL pa n (some l1) with
          | mk ys s2 =>
            rw [hg] at h
            cases s2 with
            | none => simp [gC] at h
            | some l2 =>
              simp only [gC, Prod.mk.injEq, Option.some.injEq] at h
              obtain ⟨rfl, rfl⟩ := h
              obtain ⟨c1, c2, C, eC, e2⟩ := ih l1 ys l2 (by rw [e1] at hl; exact hl.right) hg
              refine ⟨by simp [c1], ?_, A ++ C, ?_, by rw [e1, e2]; simp⟩
              · intro z hz
                rcases List.mem_cons.1 hz with rfl | hz
                · exact v
                · exact c2 z hz
              · simp only [eL, eA, eC, oa]
theorem gL_bad {pa : Ls → α × Ls} (hb : (pa none).2 = none) (n : Nat) : (gL pa n none).2 = none := by
  cases n with
  | zero => rfl
  | succ n => simp [gL, hb]
theorem pr_row {V : α → Prop} {en : α → Ls} {pa : Ls → α × Ls} (p : Pr V en pa) : Pr (fun l => ∀ x, x ∈ l → V x) (eRow en) (gRow pa) := by
  refine ⟨fun l L t hV h => ?_, fun l xs t hl h => ?_, gL_bad p.bad _⟩
  · unfold eRow at h
    split at h
    · rename_i hl
      obtain ⟨a, b, ea, eb, rfl⟩ := oa_some h
      simp only [Option.some.injEq] at ea
      subst ea
      unfold gRow
      rw [List.append_assoc, gN_lay 2 _ _ (by omega)]
      exact gL_back p l b t hV eb
    · simp at h
  · unfold gRow at h
    cases hg : gN 2 (some l) with
    | mk n s1 =>
      rw [hg] at h
      simp only at h
      cases s1 with
      | none =>
        have := gL_bad p.bad n
        rw [h] at this
        simp at this
      | some l1 =>
        obtain ⟨e, hn⟩ := gN_some hl hg
        obtain ⟨c1, c2, C, eC, e2⟩ := gL_once p n l1 xs t (by rw [e] at hl; exact hl.right) h
        refine ⟨c2, lay 2 n ++ C, ?_, by rw [e, e2]; simp⟩
        unfold eRow
        rw [c1, if_pos (by omega), eC]
        rfl
end
/-- What Decode answers. -/
def okQ (l : List Nat) : Bool := decide (chkB (bOf l) = 0) && decide (encBL (bOf l) = l.take (lenN l)) && decide (lenN l ≤ l.length)
theorem bOf_in (l : List Nat) : In64B (bOf l) := by
  have h : ∀ x : Int, wrap64 x ≤ 9223372036854775807 := fun x => by unfold wrap64; omega
  exact ⟨h _, h _⟩
theorem okQ_iff {l : List Nat} (hl : Byt l) : okQ l = true ↔ OkB l := by
  unfold okQ
  simp only [Bool.and_eq_true, decide_eq_true_eq]
  constructor
  · rintro ⟨⟨h1, h2⟩, h3⟩
    have h := (encB_ok (l.drop (lenN l)) h1 (bOf_in l)).1
    rw [h2, List.take_append_drop] at h
    exact h
  · intro h
    obtain ⟨h1, h2, h3⟩ := okB_enc hl h
    exact ⟨⟨h2, h1.symm⟩, h.nl⟩
def gBat : Ls → Ba × Ls
  | some l => if okQ l = true then (bOf l, some (l.drop (lenN l))) else (⟨0, 0, 0, 0, []⟩, none)
  | none => (⟨0, 0, 0, 0, []⟩, none)
theorem pr_bat : Pr In64B eBat gBat := by
  refine ⟨fun b L t hb h => ?_, fun l b t hl h => ?_, rfl⟩
  · unfold eBat at h
    split at h
    · rename_i hc
      simp only [Option.some.injEq] at h
      subst h
      obtain ⟨_, h2, h3⟩ := encB_ok t hc hb
      unfold gBat
      simp only
      rw [if_pos (by unfold okQ; rw [h2, h3, List.take_left]; simp [hc]), h2, h3, List.drop_left]
    · simp at h
  · unfold gBat at h
    simp only at h
    split at h
    · rename_i hq
      simp only [Prod.mk.injEq, Option.some.injEq] at h
      obtain ⟨rfl, rfl⟩ := h
      unfold okQ at hq
      simp only [Bool.and_eq_true, decide_eq_true_eq] at hq
      obtain ⟨⟨h1, h2⟩, h3⟩ := hq
      refine ⟨bOf_in l, encBL (bOf l), by unfold eBat; rw [if_pos h1], ?_⟩
      rw [h2, List.take_append_drop]
    · simp at h
/-- A field's value: only what it is made of is not nothing. -/
structure Fv where
  n : Int
  t : ByteArray
  rs : List Rc
  nm : List ByteArray
  ct : List Int
  bs : List Ba
def fz : Fv := ⟨0, ⟨#[]⟩, [], [], [], []⟩
def vn (x : Int) : Fv := ⟨x, ⟨#[]⟩, [], [], [], []⟩
def vt (x : ByteArray) : Fv := ⟨0, x, [], [], [], []⟩
def vr' (x : List Rc) : Fv := ⟨0, ⟨#[]⟩, x, [], [], []⟩
def vm (x : List ByteArray) : Fv := ⟨0, ⟨#[]⟩, [], x, [], []⟩
def vc (x : List Int) : Fv := ⟨0, ⟨#[]⟩, [], [], x, []⟩
def vb (x : List Ba) : Fv := ⟨0, ⟨#[]⟩, [], [], [], x⟩
/-- What a field is made of: 0 an int, 1 a flag, 2 a text, 3 records, 4 names, 5 counts, 6 batches. -/
def kd (f : Nat) : Nat := if f ≤ 1 then 2 else if f = 7 then 1 else if f = 11 then 3 else if f = 17 then 4 else if f = 18 then 5 else if f = 19 then 6 else 0
def eK (k : Nat) (v : Fv) : Ls := if k = 2 then eText v.t else if k = 1 then eNat 1 v.n else if k = 3 then eRow eRec v.rs else if k = 4 then eRow eText v.nm else if k = 5 then eRow (fun x => some (eInt x)) v.ct else if k = 6 then eRow eBat v.bs else some (eInt v.n)
def gK (k : Nat) (s : Ls) : Fv × Ls := if k = 2 then (vt (gT s).1, (gT s).2) else if k = 1 then (vn (gFlag s).1, (gFlag s).2) else if k = 3 then (vr' (gRow gRec s).1, (gRow gRec s).2) else if k = 4 then (vm (gRow gT s).1, (gRow gT s).2) else if k = 5 then (vc (gRow gI s).1, (gRow gI s).2) else if k = 6 then (vb (gRow gBat s).1, (gRow gBat s).2) else (vn (gI s).1, (gI s).2)
def VK (k : Nat) (v : Fv) : Prop := if k = 2 then v = vt v.t else if k = 1 then v = vn v.n ∧ (v.n = 0 ∨ v.n = 1) else if k = 3 then v = vr' v.rs ∧ (∀ r, r ∈ v.rs → In64 r.t) else if k = 4 then v = vm v.nm else if k = 5 then v = vc v.ct ∧ (∀ x, x ∈ v.ct → In64 x) else if k = 6 then v = vb v.bs ∧ (∀ x, x ∈ v.bs → In64B x) else v = vn v.n ∧ In64 v.n
theorem kd_cases (f : Nat) : kd f = 0 ∨ kd f = 1 ∨ kd f = 2 ∨ kd f = 3 ∨ kd f = 4 ∨ kd f = 5 ∨ kd f = 6 := by
  unfold kd
  repeat' split
  all_goals simp
theorem pr_map {α : Type} {V : α → Prop} {en : α → Ls} {pa : Ls → α × Ls} (p : Pr V en pa) (mk : α → Fv) (un' : Fv → α) (hu : ∀ x, un' (mk x) = x) :
    Pr (fun v => v = mk (un' v) ∧ V (un' v)) (fun v => en (un' v)) (fun s => (mk (pa s).1, (pa s).2)) := by
  refine ⟨fun v L t hv h => ?_, fun l v t hl h => ?_, p.bad⟩
  · obtain ⟨e, hV⟩ := hv
    have := p.back _ L t hV h
    simp only [this]
    rw [← e]
  · simp only [Prod.mk.injEq] at h
    obtain ⟨rfl, h2⟩ := h
    have := p.once l (pa (some l)).1 t hl (by rw [← h2])
    rw [hu]
    exact ⟨⟨rfl, this.1⟩, this.2⟩
theorem Pr.of {α : Type} {V W : α → Prop} {en : α → Ls} {pa : Ls → α × Ls} (p : Pr V en pa) (h : ∀ x, W x ↔ V x) : Pr W en pa :=
  ⟨fun x L t hx => p.back x L t ((h x).1 hx), fun l x t hl hp => ⟨(h x).2 (p.once l x t hl hp).1, (p.once l x t hl hp).2⟩, p.bad⟩
theorem pr_kd (k : Nat) (h : k = 0 ∨ k = 1 ∨ k = 2 ∨ k = 3 ∨ k = 4 ∨ k = 5 ∨ k = 6) : Pr (VK k) (eK k) (gK k) := by
  rcases h with rfl | rfl | rfl | rfl | rfl | rfl | rfl
  · exact pr_map pr_int vn (·.n) (fun _ => rfl)
  · exact pr_map pr_flag vn (·.n) (fun _ => rfl)
  · exact (pr_map pr_text vt (·.t) (fun _ => rfl)).of (fun v => by simp [VK])
  · exact pr_map (pr_row pr_rec) vr' (·.rs) (fun _ => rfl)
  · exact (pr_map (pr_row pr_text) vm (·.nm) (fun _ => rfl)).of (fun v => by simp [VK])
  · exact pr_map (pr_row pr_int) vc (·.ct) (fun _ => rfl)
  · exact pr_map (pr_row pr_bat) vb (·.bs) (fun _ => rfl)
/-- Is a field something? -/
def hasK (k : Nat) (v : Fv) : Bool := if k = 2 then !(v.t.size == 0) else if k = 3 then decide (0 < v.rs.length) else if k = 4 then decide (0 < v.nm.length) else if k = 5 then decide (0 < v.ct.length) else if k = 6 then decide (0 < v.bs.length) else !(v.n == 0)
theorem hasK_iff (k : Nat) (hk : k = 0 ∨ k = 1 ∨ k = 2 ∨ k = 3 ∨ k = 4 ∨ k = 5 ∨ k = 6) (v : Fv) (hv : VK k v) : hasK k v = false ↔ v = fz := by
  have nil : ∀ {α : Type} (l : List α), decide (0 < l.length) = false ↔ l = [] := fun l => by cases l <;> simp
  rcases hk with rfl | rfl | rfl | rfl | rfl | rfl | rfl
  · have e : v = vn v.n := hv.1
    show (!(v.n == 0)) = false ↔ _
    rw [e]
    simp [vn, fz]
  · have e : v = vn v.n := hv.1
    show (!(v.n == 0)) = false ↔ _
    rw [e]
    simp [vn, fz]
  · have e : v = vt v.t := hv
    show (!(v.t.size == 0)) = false ↔ _
    rw [e]
    simp only [vt, fz, Bool.not_eq_false', beq_iff_eq, Fv.mk.injEq, and_true, true_and]
    exact ⟨size_zero, fun h => by rw [h]; exact strN_nil0⟩
  · have e : v = vr' v.rs := hv.1
    show decide (0 < v.rs.length) = false ↔ _
    rw [e, nil]
    simp [vr', fz]
  · have e : v = vm v.nm := hv
    show decide (0 < v.nm.length) = false ↔ _
    rw [e, nil]
    simp [vm, fz]
  · have e : v = vc v.ct := hv.1
    show decide (0 < v.ct.length) = false ↔ _
    rw [e, nil]
    simp [vc, fz]
  · have e : v = vb v.bs := hv.1
    show decide (0 < v.bs.length) = false ↔ _
    rw [e, nil]
    simp [vb, fz]
/-- All fields, by their numbers. -/
abbrev Bd := Nat → Fv
def bdz : Bd := fun _ => fz
def setB (b : Bd) (f : Nat) (v : Fv) : Bd := fun g => if g = f then v else b g
def eFs (b : Bd) : List Nat → Ls
  | [] => some []
  | f :: r => oa (eK (kd f) (b f)) (eFs b r)
def gFs : List Nat → Bd → Ls → Bd × Ls
  | [], b, s => (b, s)
  | f :: r, b, s => gFs r (setB b f (gK (kd f) s).1) (gK (kd f) s).2
theorem gFs_back (b : Bd) (t : List Nat) : ∀ (row : List Nat) (b0 : Bd) (L : List Nat), (∀ f, f ∈ row → VK (kd f) (b f)) → eFs b row = some L → gFs row b0 (some (L ++ t)) = (fun g => if g ∈ row then b g else b0 g, some t) := by
  intro row
  induction row with
  | nil => intro b0 L _ h; simp [eFs] at h; subst h; simp [gFs]
  | cons f r ih =>
    intro b0 L hV h
    obtain ⟨A, C, eA, eC, rfl⟩ := oa_some h
    have h1 := (pr_kd (kd f) (kd_cases f)).back (b f) A (C ++ t) (hV f (by simp)) eA
    rw [List.append_assoc]
    simp only [gFs]
    rw [h1]
    simp only
    rw [ih (setB b0 f (b f)) C (fun g hg => hV g (by simp [hg])) eC]
    refine Prod.ext ?_ rfl
    funext g
    simp only [List.mem_cons, setB]
    by_cases hg : g ∈ r
    · simp [hg]
    · by_cases e : g = f
      · subst e; simp [hg]
      · simp [hg, e]
theorem gFs_bad : ∀ (row : List Nat) (b0 : Bd), (gFs row b0 none).2 = none := by
  intro row
  induction row with
  | nil => intro b0; rfl
  | cons f r ih =>
    intro b0
    simp only [gFs]
    rw [(pr_kd (kd f) (kd_cases f)).bad]
    exact ih _
theorem gFs_once : ∀ (row : List Nat) (b0 : Bd) (l : List Nat) (b1 : Bd) (t : List Nat), row.Nodup → Byt l → gFs row b0 (some l) = (b1, some t) →
    (∀ g, g ∉ row → b1 g = b0 g) ∧ (∀ f, f ∈ row → VK (kd f) (b1 f)) ∧ ∃ L, eFs b1 row = some L ∧ l = L ++ t := by
  intro row
  induction row with
  | nil =>
    intro b0 l b1 t _ _ h
    simp only [gFs, Prod.mk.injEq, Option.some.injEq] at h
    obtain ⟨rfl, rfl⟩ := h
    exact ⟨fun _ _ => rfl, by simp, [], rfl, rfl⟩
  | cons f r ih =>
    intro b0 l b1 t hn hl h
    simp only [gFs] at h
    rw [List.nodup_cons] at hn
    cases hg : gK (kd f) (some l) with
    | mk v s1 =>
      rw [hg] at h
      simp only at h
      cases s1 with
      | none =>
        have := gFs_bad r (setB b0 f v)
        rw [h] at this
        simp at this
      | some l1 =>
        obtain ⟨hv, A, eA, e1⟩ := (pr_kd (kd f) (kd_cases f)).once l v l1 hl hg
        obtain ⟨k1, k2, C, eC, e2⟩ := ih (setB b0 f v) l1 b1 t hn.2 (by rw [e1] at hl; exact hl.right) h
        have hf : b1 f = v := by rw [k1 f hn.1]; simp [setB]
        refine ⟨fun g hgr => ?_, fun g hgr => ?_, A ++ C, ?_, by rw [e1, e2]; simp⟩
        · simp only [List.mem_cons, not_or] at hgr
          rw [k1 g hgr.2]
          simp [setB, hgr.1]
        · rcases List.mem_cons.1 hgr with rfl | q
          · rw [hf]; exact hv
          · exact k2 g q
        · simp only [eFs, hf, eA, eC, oa]
/-- The table. -/
def rowQ (k : Int) : Option (List Nat) := if k = 1 then some [0, 3, 4, 5, 6, 7, 8] else if k = 2 then some [0] else if k = 3 then some [] else if k = 4 then some [0, 2, 9, 10, 11] else if k = 5 then some [0, 2, 12, 13] else if k = 6 then some [0, 2, 14] else if k = 7 then some [1, 0, 2, 12] else if k = 8 then some [1, 0, 2] else none
def rowA (k : Int) : Option (List Nat) := if k = 0 then some [] else if k = 1 then some [] else if k = 2 then some [] else if k = 3 then some [17, 18] else if k = 4 then some [12, 15, 16] else if k = 5 then some [15, 16, 19] else if k = 6 then some [12, 15, 16] else if k = 7 then some [] else if k = 8 then some [12] else none
def ansRow (k c : Int) : Option (List Nat) := if c = 0 then (if k = 0 then none else rowA k) else (rowA k).map fun _ => []
theorem rowQ_ok {k : Int} {r : List Nat} (h : rowQ k = some r) : r.Nodup ∧ (∀ f, f ∈ r → f < 20) := by
  unfold rowQ at h
  repeat' split at h
  all_goals first | (simp only [Option.some.injEq] at h; subst h; decide) | simp at h
theorem rowA_ok {k : Int} {r : List Nat} (h : rowA k = some r) : r.Nodup ∧ (∀ f, f ∈ r → f < 20) := by
  unfold rowA at h
  repeat' split at h
  all_goals first | (simp only [Option.some.injEq] at h; subst h; decide) | simp at h
theorem ansRow_ok {k c : Int} {r : List Nat} (h : ansRow k c = some r) : r.Nodup ∧ (∀ f, f ∈ r → f < 20) := by
  unfold ansRow at h
  split at h
  · split at h
    · simp at h
    · exact rowA_ok h
  · cases hr : rowA k with
    | none => rw [hr] at h; simp at h
    | some q => rw [hr] at h; simp at h; subst h; simp
/-- Is there a field that the row does not name? -/
def moreB (b : Bd) (row : List Nat) : Bool := (List.range 20).any fun f => hasK (kd f) (b f) && !row.contains f
/-- Only fields that may be. -/
def VB (b : Bd) : Prop := (∀ f, f < 20 → VK (kd f) (b f)) ∧ ∀ f, 20 ≤ f → b f = fz
theorem more_no {b : Bd} {row : List Nat} (hb : VB b) (h : moreB b row = false) : ∀ g, g ∉ row → b g = fz := by
  intro g hg
  by_cases h20 : g < 20
  · unfold moreB at h
    rw [List.any_eq_false] at h
    have := h g (by simpa using h20)
    simp only [Bool.and_eq_true, not_and, Bool.not_eq_true, Bool.not_eq_true', List.contains_eq_mem, decide_eq_false_iff_not] at this
    have hh : hasK (kd g) (b g) = false := by
      cases hq : hasK (kd g) (b g) with
      | false => rfl
      | true => exact absurd hg (by simpa using this hq)
    exact (hasK_iff _ (kd_cases g) _ (hb.1 g h20)).1 hh
  · exact hb.2 g (by omega)
theorem VK_fz (f : Nat) : VK (kd f) fz := by
  have h : In64 0 := ⟨by decide, by decide⟩
  rcases kd_cases f with e | e | e | e | e | e | e
  all_goals
    rw [e]
    simp [VK, vn, vt, vr', vm, vc, vb, fz, h]
theorem more_yes {b : Bd} {row : List Nat} (h : ∀ g, g ∉ row → b g = fz) : moreB b row = false := by
  unfold moreB
  rw [List.any_eq_false]
  intro g _
  simp only [Bool.and_eq_true, not_and, Bool.not_eq_true, List.contains_eq_mem]
  intro hh
  by_cases hg : g ∈ row
  · simp [hg]
  · rw [h g hg, (hasK_iff _ (kd_cases g) _ (VK_fz g)).2 rfl] at hh
    cases hh
/-- A message: numbers ahead, then fields. -/
def eNs : List Nat → List Int → Ls
  | n :: r, v :: s => oa (eNat n v) (eNs r s)
  | _, _ => some []
def gNs : List Nat → Ls → List Int × Ls
  | [], s => ([], s)
  | n :: r, s => ((gNat n s).1 :: (gNs r (gNat n s).2).1, (gNs r (gNat n s).2).2)
theorem gNs_back : ∀ (ns : List Nat) (vs : List Int) (L t : List Nat), vs.length = ns.length → eNs ns vs = some L → gNs ns (some (L ++ t)) = (vs, some t) := by
  intro ns
  induction ns with
  | nil => intro vs L t hl h; cases vs with
    | nil => simp [eNs] at h; subst h; simp [gNs]
    | cons _ _ => simp at hl
  | cons n r ih => intro vs L t hl h; cases vs with
    | nil => simp at hl
    | cons v s =>
      obtain ⟨A, C, eA, eC, rfl⟩ := oa_some h
      have h1 := (pr_nat n).back v A (C ++ t) trivial eA
      rw [List.append_assoc]
      simp only [gNs]
      rw [h1]
      simp only
      rw [ih s C t (by simpa using hl) eC]
theorem gNs_bad : ∀ (ns : List Nat), (gNs ns none).2 = none := by
  intro ns
  induction ns with
  | nil => rfl
  | cons n r ih => simp only [gNs]; exact ih
theorem gNs_once : ∀ (ns : List Nat) (l : List Nat) (vs : List Int) (t : List Nat), Byt l → gNs ns (some l) = (vs, some t) → vs.length = ns.length ∧ ∃ L, eNs ns vs = some L ∧ l = L ++ t := by
  intro ns
  induction ns with
  | nil =>
    intro l vs t _ h
    simp only [gNs, Prod.mk.injEq, Option.some.injEq] at h
    obtain ⟨rfl, rfl⟩ := h
    exact ⟨rfl, [], rfl, rfl⟩
  | cons n r ih =>
    intro l vs t hl h
    simp only [gNs] at h
    cases hg : gNat n (some l) with
    | mk v s1 =>
      rw [hg] at h
      simp only [Prod.mk.injEq] at h
      obtain ⟨rfl, h2⟩ := h
      cases s1 with
      | none => rw [gNs_bad] at h2; simp at h2
      | some l1 =>
        obtain ⟨_, A, eA, e1⟩ := (pr_nat n).once l v l1 hl hg
        obtain ⟨k1, C, eC, e2⟩ := ih l1 (gNs r (some l1)).1 t (by rw [e1] at hl; exact hl.right) (by rw [← h2])
        refine ⟨by simp [k1], A ++ C, by simp only [eNs, eA, eC, oa], by rw [e1, e2]; simp⟩
/-- A request's bytes, and a response's. -/
def msgE (ns : List Nat) (vs : List Int) (row : Option (List Nat)) (b : Bd) : Ls :=
  match row with
  | some r => if moreB b r = true then none else oa (eNs ns vs) (eFs b r)
  | none => none
def reqE (k i : Int) (b : Bd) : Ls := msgE [1, 4] [k, i] (rowQ k) b
def resE (k i c : Int) (b : Bd) : Ls := msgE [1, 4, 1] [k, i, c] (ansRow k c) b
def rowOr (r : Option (List Nat)) : List Nat := r.getD []
def reqS (l : List Nat) : (Int × Int × Bd) × Ls :=
  let k := gNat 1 (some l)
  let i := gNat 4 k.2
  let b := gFs (rowOr (rowQ k.1)) bdz i.2
  ((k.1, i.1, b.1), b.2)
def reqP (l : List Nat) : Option (Int × Int × Bd) := if (rowQ (reqS l).1.1).isSome = true ∧ (reqS l).2 = some [] then some (reqS l).1 else none
def resS (l : List Nat) : (Int × Int × Int × Bd) × Ls :=
  let k := gNat 1 (some l)
  let i := gNat 4 k.2
  let c := gNat 1 i.2
  let b := gFs (rowOr (ansRow k.1 c.1)) bdz c.2
  ((k.1, i.1, c.1, b.1), b.2)
def resP (l : List Nat) : Option (Int × Int × Int × Bd) := if (ansRow (resS l).1.1 (resS l).1.2.2.1).isSome = true ∧ (resS l).2 = some [] then some (resS l).1 else none
theorem mix_all {b : Bd} {row : List Nat} (h : ∀ g, g ∉ row → b g = fz) : (fun g => if g ∈ row then b g else bdz g) = b := by
  funext g
  by_cases hg : g ∈ row
  · simp [hg]
  · simp [hg, bdz, h g hg]
theorem req_back {k i : Int} {b : Bd} {L : List Nat} (t : List Nat) (hb : VB b) (h : reqE k i b = some L) : reqS (L ++ t) = ((k, i, b), some t) ∧ (rowQ k).isSome = true := by
  unfold reqE msgE at h
  cases hr : rowQ k with
  | none => rw [hr] at h; simp at h
  | some row =>
    rw [hr] at h
    simp only at h
    split at h
    · simp at h
    · rename_i hm
      obtain ⟨A, C, eA, eC, rfl⟩ := oa_some h
      obtain ⟨A1, A2, e1, e2, rfl⟩ := oa_some eA
      obtain ⟨A3, A4, e3, e4, rfl⟩ := oa_some e2
      simp [eNs] at e4
      subst e4
      refine ⟨?_, rfl⟩
      unfold reqS
      simp only [List.append_assoc, List.nil_append]
      rw [(pr_nat 1).back k A1 _ trivial e1]
      simp only
      rw [(pr_nat 4).back i A3 _ trivial e3]
      simp only
      rw [hr]
      simp only [rowOr, Option.getD_some]
      rw [gFs_back b t row bdz C (fun f hf => hb.1 f ((rowQ_ok hr).2 f hf)) eC, mix_all (more_no hb (by simpa using hm))]
theorem req_once {l : List Nat} {k i : Int} {b : Bd} (hl : Byt l) {t : List Nat} (h : reqS l = ((k, i, b), some t)) (hr : (rowQ k).isSome = true) : VB b ∧ ∃ L, reqE k i b = some L ∧ l = L ++ t := by
  unfold reqS at h
  simp only [Prod.mk.injEq] at h
  obtain ⟨⟨h1, h2, h3⟩, h4⟩ := h
  cases g1 : gNat 1 (some l) with
  | mk k' s1 =>
    rw [g1] at h1 h2 h3 h4
    simp only at h1 h2 h3 h4
    subst h1
    cases s1 with
    | none => rw [show (gNat 4 none).2 = none from rfl, gFs_bad] at h4; simp at h4
    | some l1 =>
      obtain ⟨_, A1, e1, q1⟩ := (pr_nat 1).once l k' l1 hl g1
      have hl1 : Byt l1 := by rw [q1] at hl; exact hl.right
      cases g2 : gNat 4 (some l1) with
      | mk i' s2 =>
        rw [g2] at h2 h3 h4
        simp only at h2 h3 h4
        subst h2
        cases s2 with
        | none => rw [gFs_bad] at h4; simp at h4
        | some l2 =>
          obtain ⟨_, A2, e2, q2⟩ := (pr_nat 4).once l1 i' l2 hl1 g2
          have hl2 : Byt l2 := by rw [q2] at hl1; exact hl1.right
          obtain ⟨row, hrow⟩ := Option.isSome_iff_exists.1 hr
          rw [hrow] at h3 h4
          simp only [rowOr, Option.getD_some] at h3 h4
          obtain ⟨ok1, ok2⟩ := rowQ_ok hrow
          obtain ⟨m1, m2, C, eC, q3⟩ := gFs_once row bdz l2 b t ok1 hl2 (Prod.ext h3 h4)
          have hz : ∀ g, g ∉ row → b g = fz := m1
          refine ⟨⟨fun f _ => ?_, fun f hf => hz f (fun hm => by have := ok2 f hm; omega)⟩, A1 ++ (A2 ++ C), ?_, by rw [q1, q2, q3]; simp⟩
          · by_cases hf : f ∈ row
            · exact m2 f hf
            · rw [hz f hf]; exact VK_fz f
          · unfold reqE msgE
            rw [hrow]
            simp only
            rw [if_neg (by rw [more_yes hz]; simp), eC]
            simp only [eNs, e1, e2, oa, List.append_nil, List.append_assoc]
theorem res_back {k i c : Int} {b : Bd} {L : List Nat} (t : List Nat) (hb : VB b) (h : resE k i c b = some L) : resS (L ++ t) = ((k, i, c, b), some t) ∧ (ansRow k c).isSome = true := by
  unfold resE msgE at h
  cases hr : ansRow k c with
  | none => rw [hr] at h; simp at h
  | some row =>
    rw [hr] at h
    simp only at h
    split at h
    · simp at h
    · rename_i hm
      obtain ⟨A, C, eA, eC, rfl⟩ := oa_some h
      obtain ⟨A1, A2, e1, e2, rfl⟩ := oa_some eA
      obtain ⟨A3, A4, e3, e4, rfl⟩ := oa_some e2
      obtain ⟨A5, A6, e5, e6, rfl⟩ := oa_some e4
      simp [eNs] at e6
      subst e6
      refine ⟨?_, rfl⟩
      unfold resS
      simp only [List.append_assoc, List.nil_append]
      rw [(pr_nat 1).back k A1 _ trivial e1]
      simp only
      rw [(pr_nat 4).back i A3 _ trivial e3]
      simp only
      rw [(pr_nat 1).back c A5 _ trivial e5]
      simp only
      rw [hr]
      simp only [rowOr, Option.getD_some]
      rw [gFs_back b t row bdz C (fun f hf => hb.1 f ((ansRow_ok hr).2 f hf)) eC, mix_all (more_no hb (by simpa using hm))]
theorem res_once {l : List Nat} {k i c : Int} {b : Bd} (hl : Byt l) {t : List Nat} (h : resS l = ((k, i, c, b), some t)) (hr : (ansRow k c).isSome = true) : VB b ∧ ∃ L, resE k i c b = some L ∧ l = L ++ t := by
  unfold resS at h
  simp only [Prod.mk.injEq] at h
  obtain ⟨⟨h1, h2, h5, h3⟩, h4⟩ := h
  cases g1 : gNat 1 (some l) with
  | mk k' s1 =>
    rw [g1] at h1 h2 h3 h4 h5
    simp only at h1 h2 h3 h4 h5
    subst h1
    cases s1 with
    | none => rw [show (gNat 4 none).2 = none from rfl, show (gNat 1 none).2 = none from rfl, gFs_bad] at h4; simp at h4
    | some l1 =>
      obtain ⟨_, A1, e1, q1⟩ := (pr_nat 1).once l k' l1 hl g1
      have hl1 : Byt l1 := by rw [q1] at hl; exact hl.right
      cases g2 : gNat 4 (some l1) with
      | mk i' s2 =>
        rw [g2] at h2 h3 h4 h5
        simp only at h2 h3 h4 h5
        subst h2
        cases s2 with
        | none => rw [show (gNat 1 none).2 = none from rfl, gFs_bad] at h4; simp at h4
        | some l2 =>
          obtain ⟨_, A2, e2, q2⟩ := (pr_nat 4).once l1 i' l2 hl1 g2
          have hl2 : Byt l2 := by rw [q2] at hl1; exact hl1.right
          cases g3 : gNat 1 (some l2) with
          | mk c' s3 =>
            rw [g3] at h3 h4 h5
            simp only at h3 h4 h5
            subst h5
            cases s3 with
            | none => rw [gFs_bad] at h4; simp at h4
            | some l3 =>
              obtain ⟨_, A3, e3, q4⟩ := (pr_nat 1).once l2 c' l3 hl2 g3
              have hl3 : Byt l3 := by rw [q4] at hl2; exact hl2.right
              obtain ⟨row, hrow⟩ := Option.isSome_iff_exists.1 hr
              rw [hrow] at h3 h4
              simp only [rowOr, Option.getD_some] at h3 h4
              obtain ⟨ok1, ok2⟩ := ansRow_ok hrow
              obtain ⟨m1, m2, C, eC, q3⟩ := gFs_once row bdz l3 b t ok1 hl3 (Prod.ext h3 h4)
              have hz : ∀ g, g ∉ row → b g = fz := m1
              refine ⟨⟨fun f _ => ?_, fun f hf => hz f (fun hm => by have := ok2 f hm; omega)⟩, A1 ++ (A2 ++ (A3 ++ C)), ?_, by rw [q1, q2, q4, q3]; simp⟩
              · by_cases hf : f ∈ row
                · exact m2 f hf
                · rw [hz f hf]; exact VK_fz f
              · unfold resE msgE
                rw [hrow]
                simp only
                rw [if_neg (by rw [more_yes hz]; simp), eC]
                simp only [eNs, e1, e2, e3, oa, List.append_nil, List.append_assoc]
/-- What is parsed. -/
theorem reqP_some {l : List Nat} {k i : Int} {b : Bd} (h : reqP l = some (k, i, b)) : reqS l = ((k, i, b), some []) ∧ (rowQ k).isSome = true := by
  unfold reqP at h
  split at h
  · rename_i hc
    simp only [Option.some.injEq] at h
    rw [h] at hc
    exact ⟨Prod.ext h hc.2, hc.1⟩
  · simp at h
theorem reqP_of {l : List Nat} {k i : Int} {b : Bd} (h : reqS l = ((k, i, b), some [])) (hr : (rowQ k).isSome = true) : reqP l = some (k, i, b) := by
  unfold reqP
  rw [h]
  simp [hr]
theorem resP_some {l : List Nat} {k i c : Int} {b : Bd} (h : resP l = some (k, i, c, b)) : resS l = ((k, i, c, b), some []) ∧ (ansRow k c).isSome = true := by
  unfold resP at h
  split at h
  · rename_i hc
    simp only [Option.some.injEq] at h
    rw [h] at hc
    exact ⟨Prod.ext h hc.2, hc.1⟩
  · simp at h
theorem resP_of {l : List Nat} {k i c : Int} {b : Bd} (h : resS l = ((k, i, c, b), some [])) (hr : (ansRow k c).isSome = true) : resP l = some (k, i, c, b) := by
  unfold resP
  rw [h]
  simp [hr]
/-- What is written is parsed as it was, and with more, or less, it is none. -/
theorem reqP_back {k i : Int} {b : Bd} {L : List Nat} (hb : VB b) (h : reqE k i b = some L) : reqP L = some (k, i, b) := by
  obtain ⟨h1, h2⟩ := req_back [] hb h
  rw [List.append_nil] at h1
  exact reqP_of h1 h2
theorem reqP_once {l : List Nat} {k i : Int} {b : Bd} (hl : Byt l) (h : reqP l = some (k, i, b)) : VB b ∧ reqE k i b = some l := by
  obtain ⟨h1, h2⟩ := reqP_some h
  obtain ⟨h3, L, e, q⟩ := req_once hl h1 h2
  rw [List.append_nil] at q
  exact ⟨h3, by rw [q]; exact e⟩
theorem reqP_more {k i : Int} {b : Bd} {L : List Nat} (hb : VB b) (h : reqE k i b = some L) (t : List Nat) (ht : t ≠ []) : reqP (L ++ t) = none := by
  obtain ⟨h1, h2⟩ := req_back t hb h
  unfold reqP
  rw [h1]
  simp [ht]
theorem reqP_cut {k i : Int} {b : Bd} {L : List Nat} (hL : Byt L) (hb : VB b) (h : reqE k i b = some L) (n : Nat) (hn : n < L.length) : reqP (L.take n) = none := by
  cases hp : reqP (L.take n) with
  | none => rfl
  | some r =>
    obtain ⟨k', i', b'⟩ := r
    have hT : Byt (L.take n) := fun c hc => hL c (List.mem_of_mem_take hc)
    obtain ⟨v, e⟩ := reqP_once hT hp
    have h2 := reqP_more v e (L.drop n) (fun c => by have := congrArg List.length c; simp at this; omega)
    rw [List.take_append_drop, reqP_back hb h] at h2
    cases h2
theorem resP_back {k i c : Int} {b : Bd} {L : List Nat} (hb : VB b) (h : resE k i c b = some L) : resP L = some (k, i, c, b) := by
  obtain ⟨h1, h2⟩ := res_back [] hb h
  rw [List.append_nil] at h1
  exact resP_of h1 h2
theorem resP_once {l : List Nat} {k i c : Int} {b : Bd} (hl : Byt l) (h : resP l = some (k, i, c, b)) : VB b ∧ resE k i c b = some l := by
  obtain ⟨h1, h2⟩ := resP_some h
  obtain ⟨h3, L, e, q⟩ := res_once hl h1 h2
  rw [List.append_nil] at q
  exact ⟨h3, by rw [q]; exact e⟩
theorem resP_more {k i c : Int} {b : Bd} {L : List Nat} (hb : VB b) (h : resE k i c b = some L) (t : List Nat) (ht : t ≠ []) : resP (L ++ t) = none := by
  obtain ⟨h1, h2⟩ := res_back t hb h
  unfold resP
  rw [h1]
  simp [ht]
end Go.Proofs.YtaooidckmepdeaaDoor
