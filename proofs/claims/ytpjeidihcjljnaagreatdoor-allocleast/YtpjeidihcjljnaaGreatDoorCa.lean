/- A cache with what it ought to tell, on a device of n blocks that is not cut; with boxes beside it. -/
import Derived.Test.YtpjeidihcjljnaaGreatDoorCf
namespace Go.Proofs.YtpjeidihcjljnaaGreatDoor
set_option linter.unusedSimpArgs false
set_option linter.unusedVariables false
set_option maxRecDepth 100000
open Go.RowKit Go.MapKept Go.Proofs
open Go.ChangeMaps (setBlock heap_setBlock_same heap_setBlock_other)
/-! The laws' own: fresh, awake; a cache with what it ought to tell. -/
/-- A cache on a journal on a device that is not cut, of n blocks; m: ops at most; V: what the journal tells; X: the transaction. -/
structure CS (B : Nat) (E : List Nat) (w1 w : World) (c dp n m : Nat) (V : Nat → List Nat) (X : Tx) : Prop where
  fr : Fr B E w1 w
  cp : ∃ j d T, CP B E w c j dp d T false X ∧ Rest d T V ∧ d.n = n ∧ d.cut = false ∧ d.ops ≤ m
section
variable {B : Nat} {E : List Nat} {w1 w : World} {c dp n m : Nat} {V : Nat → List Nat} {X : Tx}
theorem CS.below {w' : World} (h : CS B E w1 w c dp n m V X) (hb : Below w.heap.size w w') : CS B E w1 w' c dp n m V X := by
  obtain ⟨hF, j, d, T, h1, h2, h3, h4, h5⟩ := h
  exact ⟨hF.below hb, j, d, T, h1.below hb, h2, h3, h4, h5⟩
theorem CS.mono {m' : Nat} (h : CS B E w1 w c dp n m V X) (hm : m ≤ m') : CS B E w1 w c dp n m' V X := by
  obtain ⟨hF, j, d, T, h1, h2, h3, h4, h5⟩ := h
  exact ⟨hF, j, d, T, h1, h2, h3, h4, by omega⟩
theorem CS.tell (h : CS B E w1 w c dp n m V X) {k : Nat} (h1 : 245 ≤ k) (h2 : k < n) : (txV V X k).length = 512 ∧ ∀ i, (txV V X k).getD i 0 < 256 := by
  obtain ⟨hF, j, d, T, a1, a2, a3, a4, a5⟩ := h
  have hv := a2.slt a1.ok h1 (by omega)
  rcases X with _ | ⟨hl, f⟩
  · exact hv
  · obtain ⟨wb, _, _, hW⟩ := a1.cellsO
    unfold txV
    simp only
    split
    · rename_i q; exact hW.dat k q
    · exact hv
theorem CS.openC (h : CS B E w1 w c dp n m V X) : Calls Tryz.prog 21 #[.pointer (some ⟨c, 0, none⟩)] w fun e w' => e = .returned (.bool X.isSome) ∧ w' = w := by
  obtain ⟨hF, j, d, T, h1, _⟩ := h
  exact copen_any h1
theorem CS.dirty (h : CS B E w1 w c dp n m V X) : Calls Tryz.prog 33 #[.pointer (some ⟨c, 0, none⟩)] w fun e w' => e = .returned (.int .i64 (txn X : Int)) ∧ w' = w := by
  obtain ⟨hF, j, d, T, h1, _⟩ := h
  exact cdirty_any h1
theorem CS.begin (h : CS B E w1 w c dp n m V none) : Calls Tryz.prog 15 #[.pointer (some ⟨c, 0, none⟩)] w fun e w' => e = .returned (.int .i64 0) ∧ CS B E w1 w' c dp n m V tx0 := by
  obtain ⟨hF, j, d, T, h1, h2⟩ := h
  refine (cbegin_ok hF h1).mono ?_
  rintro e w' ⟨rfl, a, b⟩
  exact ⟨rfl, a, j, d, T, b, h2⟩
theorem CS.begin_no {hl : List Nat} {f : Nat → List Nat} (h : CS B E w1 w c dp n m V (some (hl, f))) : Calls Tryz.prog 15 #[.pointer (some ⟨c, 0, none⟩)] w fun e w' => e = .returned (.int .i64 8) ∧ w' = w := by
  obtain ⟨hF, j, d, T, h1, h2⟩ := h
  exact cbegin_some h1
theorem CS.abort {hl : List Nat} {f : Nat → List Nat} (h : CS B E w1 w c dp n m V (some (hl, f))) : Calls Tryz.prog 8 #[.pointer (some ⟨c, 0, none⟩)] w fun e w' => e = .returned (.int .i64 0) ∧ CS B E w1 w' c dp n m V none := by
  obtain ⟨hF, j, d, T, h1, h2⟩ := h
  refine (cabort_ok hF h1).mono ?_
  rintro e w' ⟨rfl, a, b⟩
  exact ⟨rfl, a, j, d, T, b, h2⟩
theorem CS.abort_no (h : CS B E w1 w c dp n m V none) : Calls Tryz.prog 8 #[.pointer (some ⟨c, 0, none⟩)] w fun e w' => e = .returned (.int .i64 8) ∧ w' = w := by
  obtain ⟨hF, j, d, T, h1, h2⟩ := h
  exact cabort_none h1
theorem CS.commit_no (h : CS B E w1 w c dp n m V none) : Calls Tryz.prog 17 #[.pointer (some ⟨c, 0, none⟩)] w fun e w' => e = .returned (.int .i64 8) ∧ w' = w := by
  obtain ⟨hF, j, d, T, h1, h2⟩ := h
  exact ccommit_none h1
theorem CS.commit {hl : List Nat} {f : Nat → List Nat} (h : CS B E w1 w c dp n m V (some (hl, f))) (hm : m ≤ 900000) (hn : n ≤ 2000) : Calls Tryz.prog 17 #[.pointer (some ⟨c, 0, none⟩)] w fun e w' => e = .returned (.int .i64 0) ∧ CS B E w1 w' c dp n (m + (n + 70)) (txV V (some (hl, f))) none := by
  obtain ⟨hF, j, d, T, h1, h2, h3, h4, h5⟩ := h
  refine (ccommit_ok hF h1 h2 (by omega)).mono ?_
  rintro e w' ⟨cd, rfl, q⟩
  rcases q with ⟨rfl, a, d', T', b, r, n⟩ | ⟨_, _, d', T', _, _, n, hcut⟩
  · exact ⟨rfl, a, j, d', T', b, r, by rw [n.n, h3], by rw [n.cut, h4], by have := n.ops; omega⟩
  · rw [n.cut, h4] at hcut; cases hcut
theorem CS.read (h : CS B E w1 w c dp n m V X) (k : Nat) (h1 : 245 ≤ k) (h2 : k < n) : Calls Tryz.prog 70 #[.pointer (some ⟨c, 0, none⟩), .int .i64 (k : Int)] w fun e w' => ∃ g ty, e = .returned (.tuple #[.slice (some ⟨g, 0, none⟩) 512 512, .int .i64 0]) ∧ Full w' g ty (txV V X k) ∧ w.heap.size ≤ g ∧ Below w.heap.size w w' := by
  obtain ⟨hF, j, d, T, a1, a2, a3, a4, a5⟩ := h
  exact cread_any a1 a2 k h1 (by omega)
theorem CS.write {hl : List Nat} {f : Nat → List Nat} (h : CS B E w1 w c dp n m V (some (hl, f))) (k : Nat) (h1 : 245 ≤ k) (h2 : k < n) (hf : fullB hl k = false) {g ty : Nat} {q : List Nat} (hg : Full w g ty q) (hq : q.length = 512) (hqb : ∀ i, q.getD i 0 < 256) :
    Calls Tryz.prog 62 #[.pointer (some ⟨c, 0, none⟩), .int .i64 (k : Int), .slice (some ⟨g, 0, none⟩) 512 512] w fun e w' => e = .returned (.int .i64 0) ∧ CS B E w1 w' c dp n m V (some (addK hl k, updK f k q)) := by
  obtain ⟨hF, j, d, T, a1, a2, a3, a4, a5⟩ := h
  refine (cwrite_ok hF a1 a2 k h1 (by omega) hf hg hq hqb).mono ?_
  rintro e w' ⟨rfl, a, b⟩
  exact ⟨rfl, a, j, d, T, b, a2, a3, a4, a5⟩
theorem CS.write_big {hl : List Nat} {f : Nat → List Nat} (h : CS B E w1 w c dp n m V (some (hl, f))) (k : Nat) (h1 : 245 ≤ k) (h2 : k < n) (hf : fullB hl k = true) (a : Option Addr) (cap : Nat) :
    Calls Tryz.prog 62 #[.pointer (some ⟨c, 0, none⟩), .int .i64 (k : Int), .slice a 512 cap] w fun e w' => e = .returned (.int .i64 2) ∧ CS B E w1 w' c dp n m V (some (hl, f)) := by
  obtain ⟨hF, j, d, T, a1, a2, a3, a4, a5⟩ := id h
  refine (cwrite_big hF a1 a2 k h1 (by omega) hf a cap).mono ?_
  rintro e w' ⟨rfl, a, b⟩
  exact ⟨rfl, a, j, d, T, b, a2, a3, a4, a5⟩
theorem CS.write_no (h : CS B E w1 w c dp n m V none) (k : Int) (v : Value) : Calls Tryz.prog 62 #[.pointer (some ⟨c, 0, none⟩), .int .i64 k, v] w fun e w' => e = .returned (.int .i64 8) ∧ w' = w := by
  obtain ⟨hF, j, d, T, a1, _⟩ := h
  exact cwrite_none a1 k v
theorem CS.write_far {hl : List Nat} {f : Nat → List Nat} (h : CS B E w1 w c dp n m V (some (hl, f))) (k : Int) (hk : n ≤ k) (v : Value) : Calls Tryz.prog 62 #[.pointer (some ⟨c, 0, none⟩), .int .i64 k, v] w fun e w' => e = .returned (.int .i64 1) ∧ CS B E w1 w' c dp n m V (some (hl, f)) := by
  obtain ⟨hF, j, d, T, a1, a2, a3, a4, a5⟩ := id h
  refine (cwrite_far a1 k (by simp [hasJ, a3]; omega) v).mono ?_
  rintro e w' ⟨rfl, b⟩
  exact ⟨rfl, h.below b⟩
theorem CS.write_len {hl : List Nat} {f : Nat → List Nat} (h : CS B E w1 w c dp n m V (some (hl, f))) (k : Nat) (h1 : 245 ≤ k) (h2 : k < n) (a : Option Addr) (len cap : Nat) (hlen : ((len : Int) != 512) = true) : Calls Tryz.prog 62 #[.pointer (some ⟨c, 0, none⟩), .int .i64 (k : Int), .slice a len cap] w fun e w' => e = .returned (.int .i64 1) ∧ CS B E w1 w' c dp n m V (some (hl, f)) := by
  obtain ⟨hF, j, d, T, a1, a2, a3, a4, a5⟩ := id h
  refine (cwrite_len a1 a2 k h1 (by omega) a len cap hlen).mono ?_
  rintro e w' ⟨rfl, b⟩
  exact ⟨rfl, h.below b⟩
end
theorem CP.keepsE {B : Nat} {E G : List Nat} {w w' : World} {c j dp : Nat} {d : Dv} {T : List (List Nat)} {off : Bool} {X : Tx} (h : CP B E w c j dp d T off X) (k : Keeps G w w') (hG : ∀ x ∈ G, x ∈ E) : CP B E w' c j dp d T off X := by
  obtain ⟨L, h1, h2, h3⟩ := h
  exact ⟨L, h1.blk (fun x hx => k.block x (h1.lt x hx) (fun q => (h2 x hx).2 (hG x q))), h2, h3.keeps k (fun x hx => List.mem_append.2 (.inr (hG x hx)))⟩
/-- As CS, with blocks E beside it that a law writes itself. -/
structure BS (B : Nat) (w1 : World) (E : List Nat) (w : World) (c dp n m : Nat) (V : Nat → List Nat) (X : Tx) : Prop where
  fr : Fr B [] w1 w
  ge : ∀ x ∈ E, B ≤ x ∧ x < w.heap.size
  cq : ∃ j d T, CP B E w c j dp d T false X ∧ Rest d T V ∧ d.n = n ∧ d.cut = false ∧ d.ops ≤ m
section
variable {B : Nat} {w1 w w' : World} {E : List Nat} {c dp n m m' : Nat} {V V' : Nat → List Nat} {X X' : Tx}
theorem BS.cs (h : BS B w1 E w c dp n m V X) : CS B E w w c dp n m V X := ⟨Fr.start (fun x hx => (h.ge x hx).2) (Nat.le_trans h.fr.big h.fr.size) h.fr.pos h.fr.tab, h.cq⟩
theorem BS.after (h : BS B w1 E w c dp n m V X) (g : CS B E w w' c dp n m' V' X') : BS B w1 E w' c dp n m' V' X' ∧ Same E w w' :=
  ⟨⟨h.fr.trans g.fr (by simp), fun x hx => ⟨(h.ge x hx).1, g.fr.ltw x hx⟩, g.cp⟩, g.fr.same⟩
theorem BS.below (h : BS B w1 E w c dp n m V X) (hb : Below w.heap.size w w') : BS B w1 E w' c dp n m V X ∧ Same E w w' := h.after (h.cs.below hb)
theorem BS.keeps {G : List Nat} (h : BS B w1 E w c dp n m V X) (k : Keeps G w w') (hG : ∀ x ∈ G, x ∈ E) : BS B w1 E w' c dp n m V X := by
  obtain ⟨hF, hge, j, d, T, h1, h2⟩ := h
  exact ⟨hF.keeps k (fun x hx => ⟨(hge x (hG x hx)).1, by simp⟩), fun x hx => ⟨(hge x hx).1, Nat.lt_of_lt_of_le (hge x hx).2 k.size⟩, j, d, T, h1.keepsE k hG, h2⟩
theorem BS.box {x : Nat} (h : BS B w1 E w c dp n m V X) (hb : Below w.heap.size w w') (hx : w.heap.size ≤ x) (hlt : x < w'.heap.size) : BS B w1 (x :: E) w' c dp n m V X := by
  obtain ⟨hF, hge, j, d, T, h1, h2⟩ := h
  refine ⟨hF.below hb, fun y hy => ?_, j, d, T, (h1.ext (fun y hy => ?_)).below hb, h2⟩
  · rcases List.mem_cons.1 hy with rfl | q
    · exact ⟨Nat.le_trans (Nat.le_trans hF.big hF.size) hx, hlt⟩
    · exact ⟨(hge y q).1, Nat.lt_of_lt_of_le (hge y q).2 hb.size⟩
  · rcases List.mem_cons.1 hy with rfl | q
    · exact .inr hx
    · exact .inl q
theorem BS.ext {E' : List Nat} (h : BS B w1 E w c dp n m V X) (hE : ∀ x ∈ E', x ∈ E) : BS B w1 E' w c dp n m V X := by
  obtain ⟨hF, hge, j, d, T, h1, h2⟩ := h
  exact ⟨hF, fun x hx => hge x (hE x hx), j, d, T, h1.ext (fun x hx => .inl (hE x hx)), h2⟩
theorem CS.bs (h : CS B [] w1 w c dp n m V X) : BS B w1 [] w c dp n m V X := ⟨h.fr, by simp, h.cp⟩
theorem BS.cs0 (h : BS B w1 E w c dp n m V X) : CS B [] w1 w c dp n m V X := ⟨h.fr, (h.ext (E' := []) (by simp)).cq⟩
theorem BS.few {hl : List Nat} {f : Nat → List Nat} (h : BS B w1 E w c dp n m V (some (hl, f))) : hl.length ≤ 60 := by
  obtain ⟨_, _, j, d, T, h1, _⟩ := h
  obtain ⟨wb, _, _, hW⟩ := h1.cellsO
  exact hW.few
/-- Write into a home by its number. -/
theorem BS.write {hl : List Nat} {f : Nat → List Nat} (h : BS B w1 E w c dp n m V (some (hl, f))) (K : Nat) (hK0 : 245 ≤ K) (hK : K < n) (hf : fullB hl K = false) {g ty : Nat} {q : List Nat} (hg : Full w g ty q) (hq : q.length = 512) (hqb : ∀ i, q.getD i 0 < 256) :
    Calls Tryz.prog 62 #[.pointer (some ⟨c, 0, none⟩), .int .i64 (K : Int), .slice (some ⟨g, 0, none⟩) 512 512] w fun e w' => e = .returned (.int .i64 0) ∧ BS B w1 E w' c dp n m V (some (addK hl K, updK f K q)) ∧ Same E w w' := by
  have := CS.write h.cs K hK0 hK hf hg hq hqb
  refine this.mono ?_
  rintro e w' ⟨rfl, g⟩
  exact ⟨rfl, h.after g⟩
theorem BS.write_big {hl : List Nat} {f : Nat → List Nat} (h : BS B w1 E w c dp n m V (some (hl, f))) (K : Nat) (hK0 : 245 ≤ K) (hK : K < n) (hf : fullB hl K = true) (a : Option Addr) (cap : Nat) :
    Calls Tryz.prog 62 #[.pointer (some ⟨c, 0, none⟩), .int .i64 (K : Int), .slice a 512 cap] w fun e w' => e = .returned (.int .i64 2) ∧ BS B w1 E w' c dp n m V (some (hl, f)) ∧ Same E w w' := by
  have := CS.write_big h.cs K hK0 hK hf a cap
  refine this.mono ?_
  rintro e w' ⟨rfl, g⟩
  exact ⟨rfl, h.after g⟩
theorem BS.commit {hl : List Nat} {f : Nat → List Nat} (h : BS B w1 E w c dp n m V (some (hl, f))) (hm : m ≤ 900000) (hn : n ≤ 2000) : Calls Tryz.prog 17 #[.pointer (some ⟨c, 0, none⟩)] w fun e w' => e = .returned (.int .i64 0) ∧ BS B w1 E w' c dp n (m + (n + 70)) (txV V (some (hl, f))) none ∧ Same E w w' := by
  refine (CS.commit h.cs hm hn).mono ?_
  rintro e w' ⟨rfl, g⟩
  exact ⟨rfl, h.after g⟩
theorem BS.abort {hl : List Nat} {f : Nat → List Nat} (h : BS B w1 E w c dp n m V (some (hl, f))) : Calls Tryz.prog 8 #[.pointer (some ⟨c, 0, none⟩)] w fun e w' => e = .returned (.int .i64 0) ∧ BS B w1 E w' c dp n m V none ∧ Same E w w' := by
  refine (CS.abort h.cs).mono ?_
  rintro e w' ⟨rfl, g⟩
  exact ⟨rfl, h.after g⟩
theorem BS.dirtyO {hl : List Nat} {f : Nat → List Nat} (h : BS B w1 E w c dp n m V (some (hl, f))) (z : Int) (hn : (hl.length : Int) = z) : Calls Tryz.prog 33 #[.pointer (some ⟨c, 0, none⟩)] w fun e w' => e = .returned (.int .i64 z) ∧ w' = w := by
  subst hn
  exact h.cs.dirty
theorem BS.dirtyN (h : BS B w1 E w c dp n m V none) : Calls Tryz.prog 33 #[.pointer (some ⟨c, 0, none⟩)] w fun e w' => e = .returned (.int .i64 0) ∧ w' = w := h.cs.dirty
theorem BS.begin (h : BS B w1 E w c dp n m V none) : Calls Tryz.prog 15 #[.pointer (some ⟨c, 0, none⟩)] w fun e w' => e = .returned (.int .i64 0) ∧ BS B w1 E w' c dp n m V tx0 ∧ Same E w w' := by
  refine (CS.begin h.cs).mono ?_
  rintro e w' ⟨rfl, g⟩
  exact ⟨rfl, h.after g⟩
end
end Go.Proofs.YtpjeidihcjljnaaGreatDoor
