/- Feed's ways, without a walk. -/
import Derived.Test.YthbomgjjdmogpaaFl
namespace Go.Proofs.Ythbomgjjdmogpaa
set_option linter.unusedSimpArgs false
set_option linter.unusedVariables false
open Go.RowKit
/-- What Feed's loop keeps. -/
structure LI (w : World) (B p : Nat) (v0 : Value) (r : List (List Nat) × Bool × List Nat) (x : World) (q l : List Nat) (a : Option Addr) (cap : Nat) (v T : Value) (fs : List Fr) : Prop where
  ine : InE w (fp p v0) a cap l
  fe : FeIs x B p v q false
  owns : x.ownsRow w.heap.size 23 1 T fs.length (fs.map Fr.v)
  all : AllF x (fp p v) fs
  keep : Keeps (fp p v0) w x
  vs : ∀ y ∈ fp p v, y ∈ fp p v0 ∨ w.heap.size ≤ y
  eq : r = (fs.map (·.b) ++ (frames (q ++ l)).1, (frames (q ++ l)).2)
  blk : ∀ f, f ∈ fs → ∀ x, f.a = some x → v0.ownBlock = some x.block ∨ w.heap.size ≤ x.block
theorem fp_own {p : Nat} {v v0 : Value} {n : Nat} (h : ∀ y ∈ fp p v, y ∈ fp p v0 ∨ n ≤ y) (hv : ∀ x, v.ownBlock = some x → x ≠ p) : ∀ x, v.ownBlock = some x → v0.ownBlock = some x ∨ n ≤ x := by
  intro x hx
  rcases h x (by simp [fp, hx]) with q | q
  · rcases List.mem_cons.1 q with e | e
    · exact absurd e (hv x hx)
    · exact .inl (by simpa using e)
  · exact .inr q
theorem FeIs.vne {w : World} {B p : Nat} {v : Value} {q : List Nat} {sh : Bool} (h : FeIs w B p v q sh) : ∀ x, v.ownBlock = some x → x ≠ p := by
  obtain ⟨hd, hb, _⟩ := h.ex
  intro x hx
  rcases h.body with ⟨rfl, _⟩ | ⟨g, rfl, hg, _⟩
  · cases hx
  · exact row_box hg hb.box (by decide) x hx
/-- The end of a call: all is as FDP asks. -/
theorem LI.done {w : World} {B p : Nat} {v0 : Value} {r : List (List Nat) × Bool × List Nat} {x x' : World} {q l : List Nat} {a : Option Addr} {cap : Nat} {v T : Value} {fs : List Fr} (h : LI w B p v0 r x q l a cap v T fs) {v' : Value} {q' : List Nat} {ok : Bool}
    (hk : Keeps (fp p v) x x') (hf : FeIs x' B p v' q' (!ok)) (hv : ∀ y ∈ fp p v', y ∈ fp p v ∨ x.heap.size ≤ y) (he : frames (q ++ l) = ([], ok, q')) : FDP w B p v0 r (.returned (.tuple #[T, .bool ok])) x' := by
  have hs := h.keep.size
  have e := h.eq
  rw [he] at e
  simp only [List.append_nil] at e
  subst e
  have hvv : ∀ y ∈ fp p v', y ∈ fp p v0 ∨ w.heap.size ≤ y := fun y hy => by
    rcases hv y hy with q | q
    · exact h.vs y q
    · exact .inr (by omega)
  have ha : AllF x (fp p v ++ fp p v') fs := h.all.less (fun y hy => by
    rcases List.mem_append.1 hy with q | q
    · exact .inl q
    · exact hv y q)
  exact ⟨T, fs, v', rfl, hk.owns h.owns (h.fe.owns_off h.owns), rfl, (ha.keeps hk (fun y hy => .inl (List.mem_append.2 (.inl hy)))).less (fun y hy => .inl (List.mem_append.2 (.inr hy))), hf, h.keep.trans hk (fun y hy => h.vs y hy), fp_own hvv hf.vne, h.blk⟩
theorem app_lt {q l : List Nat} (h1 : ∀ i, q.getD i 0 < 256) (h2 : ∀ i, l.getD i 0 < 256) : ∀ i, (q ++ l).getD i 0 < 256 := by
  intro i
  by_cases hi : i < q.length
  · rw [getD_app _ _ _ hi]; exact h1 i
  · have e : (q ++ l).getD i 0 = l.getD (i - q.length) 0 := by simp [List.getD, List.getElem?_append_right (show q.length ≤ i by omega)]
    rw [e]; exact h2 _
/-- The length is not whole. -/
theorem wayA {w : World} {B p : Nat} {v0 : Value} {r : List (List Nat) × Bool × List Nat} {x w1 : World} {q l : List Nat} {a : Option Addr} {cap : Nat} {v T : Value} {fs : List Fr} (h : LI w B p v0 r x q l a cap v T fs)
    {hd hd1 : List Nat} {n m : Nat} (hn : n = min 4 q.length) (hm : m = min (4 - n) l.length) (h1 : hd.take n = q.take 4) (h2 : hd1.take (n + m) = hd.take n ++ l.take m) (hb : FBox w1 p hd1 (n + m) v false) (hk : Keeps [p] x w1) (hlt : n + m < 4) :
    FDP w B p v0 r (.returned (.tuple #[T, .bool true])) w1 := by
  obtain ⟨e1, e2⟩ := head_all hn hm h1 h2
  have hX : (q ++ l).length < 4 := by rw [e1] at hlt; omega
  have hq : q.length < 4 := by rw [List.length_append] at hX; omega
  have hv : v = .slice none 0 0 := by
    rcases h.fe.body with ⟨e, _⟩ | ⟨g, _, _, h4⟩
    · exact e
    · omega
  refine h.done (v' := v) (q' := q ++ l) (hk.mono (fun y hy => .inl (by simp at hy; subst hy; simp [fp]))) ⟨⟨hd1, by rw [e1] at hb; exact hb, e2⟩, app_lt h.fe.lt h.ine.row.lt, .inl ⟨hv, by omega⟩, h.fe.ge, frames_short hX, fun e => by cases e⟩ (fun y hy => .inl hy) (frames_short hX)
theorem take_eq_of {hd1 X : List Nat} (hl : hd1.length = 4) (h4 : 4 ≤ X.length) (h : hd1.take (min 4 X.length) = X.take 4) : hd1 = X.take 4 := by
  rw [show min 4 X.length = 4 by omega, List.take_of_length_le (by omega)] at h
  exact h
/-- An empty Feeder. -/
def zc (sh : Bool) : Array Value := #[.int .u8 0, .int .u8 0, .int .u8 0, .int .u8 0, .int .i64 0, .slice none 0 0, .bool sh]
theorem zc_box {w : World} {p : Nat} {sh : Bool} (h : w.heap[p]? = some (.cells (zc sh) 37 (0, 0))) : FBox w p [0, 0, 0, 0] 0 (.slice none 0 0) sh := ⟨h, rfl, fun i => by
  by_cases hi : i < 4
  · have : ∀ i, i < 4 → [0, 0, 0, 0].getD i 0 < 256 := by decide
    exact this i hi
  · rw [getD_out _ _ (by simp; omega)]; omega⟩
theorem zc_fe {w : World} {B p : Nat} {sh : Bool} (h : w.heap[p]? = some (.cells (zc sh) 37 (0, 0))) (hB : B ≤ p) : FeIs w B p (.slice none 0 0) [] sh :=
  ⟨⟨[0, 0, 0, 0], zc_box h, rfl⟩, fun i => by simp, .inl ⟨rfl, by simp⟩, hB, Rest.nil, fun _ => rfl⟩
/-- The length may not be. -/
theorem wayB {w : World} {B p : Nat} {v0 : Value} {r : List (List Nat) × Bool × List Nat} {x w2 x' : World} {q l : List Nat} {a : Option Addr} {cap : Nat} {v T : Value} {fs : List Fr} (h : LI w B p v0 r x q l a cap v T fs)
    (hk : Keeps [p] x w2) (h4 : 4 ≤ (q ++ l).length) (hb : 8192 < be (q ++ l)) (hx : x'.heap[p]? = some (.cells (zc true) 37 (0, 0))) (hk2 : Keeps [p] w2 x') : FDP w B p v0 r (.returned (.tuple #[T, .bool false])) x' := by
  refine h.done (v' := .slice none 0 0) (q' := []) ((hk.trans hk2 (fun y hy => .inl hy)).mono (fun y hy => .inl (by simp at hy; subst hy; simp [fp]))) (zc_fe hx h.fe.ge) (fun y hy => .inl (by simp [fp, Value.ownBlock] at hy; subst hy; simp [fp])) (frames_bad h4 hb)
/-- takeBody, whatever the body is. -/
theorem takeBody_any (B p : Nat) (hd : List Nat) (h : Nat) (v : Value) (sh : Bool) (c : List Nat) (size : Nat) (a : Option Addr) (cap : Nat) (l : List Nat) (w : World) (hb : FBox w p hd h v sh) (hv : (v = .slice none 0 0 ∧ c = []) ∨ ∃ g, v = .slice (some ⟨g, 0, none⟩) c.length size ∧ Own B w g size c)
    (hBs : B ≤ w.heap.size) (hs : c.length ≤ size) (hs2 : size ≤ 8192) (hi : InE w (fp p v) a cap l) :
    Calls Try.prog 21 #[.pointer (some ⟨p, 0, none⟩), .slice a l.length cap, .int .i64 (size : Int)] w fun e w' => TBP w B p hd h v sh c size a cap l (min (size - c.length) l.length) e w' := by
  rcases hv with ⟨rfl, rfl⟩ | ⟨g, rfl, ho⟩
  · exact takeBody_nil B p hd h sh size a cap l w hb hBs hs2 hi
  · exact takeBody_some B p hd h g sh c size a cap l w hb ho hs hs2 hi
/-- The frame has not ended. -/
theorem wayC {w : World} {B p : Nat} {v0 : Value} {r : List (List Nat) × Bool × List Nat} {x w2 w3 : World} {q l : List Nat} {a : Option Addr} {cap : Nat} {v T : Value} {fs : List Fr} (h : LI w B p v0 r x q l a cap v T fs)
    {hd1 : List Nat} {g : Nat} (hk : Keeps [p] x w2) (h4 : 4 ≤ (q ++ l).length) (hb : be (q ++ l) ≤ 8192) (hlt : (q ++ l).length < 4 + be (q ++ l)) (hhd : hd1 = (q ++ l).take 4)
    (hbx : FBox w3 p hd1 4 (.slice (some ⟨g, 0, none⟩) (((q ++ l).drop 4).take (be (q ++ l))).length (be (q ++ l))) false) (ho : Own B w3 g (be (q ++ l)) (((q ++ l).drop 4).take (be (q ++ l)))) (hk3 : Keeps (fp p v) w2 w3) (hg : v.ownBlock = some g ∨ w2.heap.size ≤ g) :
    FDP w B p v0 r (.returned (.tuple #[T, .bool true])) w3 := by
  have e : ((q ++ l).drop 4).take (be (q ++ l)) = (q ++ l).drop 4 := List.take_of_length_le (by rw [List.length_drop]; omega)
  rw [e] at hbx ho
  have hmem : ∀ y ∈ [p], y ∈ fp p v := fun y hy => by simp at hy; subst hy; simp [fp]
  refine h.done (v' := .slice (some ⟨g, 0, none⟩) ((q ++ l).length - 4) (be (q ++ l))) (q' := q ++ l) ((hk.mono (fun y hy => .inl (hmem y hy))).trans hk3 (fun y hy => .inl hy)) ⟨⟨hd1, ?_, ?_⟩, app_lt h.fe.lt h.ine.row.lt, .inr ⟨g, rfl, ho, h4⟩, h.fe.ge, frames_part hb hlt, fun e => by cases e⟩ (fun y hy => ?_) (frames_part hb hlt)
  · rw [show min 4 (q ++ l).length = 4 by omega, ← List.length_drop]; exact hbx
  · rw [hhd, List.take_take, show min (min 4 (q ++ l).length) 4 = 4 by omega]
  · simp [fp, Value.ownBlock] at hy
    rcases hy with rfl | rfl
    · exact .inl (by simp [fp])
    · rcases hg with e | e
      · exact .inl (by simp [fp, e])
      · exact .inr (by have := hk.size; omega)
/-- The frame has ended: it is told, and all begins anew. -/
theorem wayD {w : World} {B p : Nat} {v0 : Value} {r : List (List Nat) × Bool × List Nat} {x w2 w3 w4 x' : World} {q l : List Nat} {a : Option Addr} {cap : Nat} {v T : Value} {fs : List Fr} (h : LI w B p v0 r x q l a cap v T fs)
    {g : Nat} {o : Obj} {a' : Option Addr} {cap' : Nat} {l' : List Nat} {T' : Value} (hk : Keeps [p] x w2) (h4 : 4 ≤ (q ++ l).length) (hb : be (q ++ l) ≤ 8192) (hge : 4 + be (q ++ l) ≤ (q ++ l).length) (hpg : p ≠ g)
    (ho : Own B w3 g (be (q ++ l)) (((q ++ l).drop 4).take (be (q ++ l)))) (hk3 : Keeps (fp p v) w2 w3) (hg : v.ownBlock = some g ∨ w2.heap.size ≤ g)
    (hgr : (w3.alloc o).grownBy w4 T.ownBlock) (hT : w4.ownsRow w.heap.size 23 1 T' (fs ++ [(⟨some ⟨g, 0, none⟩, be (q ++ l), ((q ++ l).drop 4).take (be (q ++ l))⟩ : Fr)]).length ((fs ++ [(⟨some ⟨g, 0, none⟩, be (q ++ l), ((q ++ l).drop 4).take (be (q ++ l))⟩ : Fr)]).map Fr.v))
    (hx : x'.heap[p]? = some (.cells (zc false) 37 (0, 0))) (hk5 : Keeps [p] w4 x') (hp4 : ∃ cs, w4.heap[p]? = some (.cells cs 37 (0, 0))) (hin : InE w (fp p v0) a' cap' l') (hl' : l' = (q ++ l).drop (4 + be (q ++ l))) :
    LI w B p v0 r x' [] l' a' cap' (.slice none 0 0) T' (fs ++ [⟨some ⟨g, 0, none⟩, be (q ++ l), ((q ++ l).drop 4).take (be (q ++ l))⟩]) := by
  have hmem : ∀ y ∈ [p], y ∈ fp p v := fun y hy => by simp at hy; subst hy; simp [fp]
  have hpv : p ∈ fp p v := by simp [fp]
  have hkx3 : Keeps (fp p v) x w3 := (hk.mono (fun y hy => .inl (hmem y hy))).trans hk3 (fun y hy => .inl hy)
  have hwT : w3.ownsRow w.heap.size 23 1 T fs.length (fs.map Fr.v) := hkx3.owns h.owns (h.fe.owns_off h.owns)
  have hTn : ∀ y, T.ownBlock = some y → w.heap.size ≤ y := fun y hy => (h.owns.lt y hy).1
  have hgT : ∀ y, T.ownBlock = some y → y ≠ g := fun y hy e => row_row hwT ho (by decide) y hy (by rw [e]; rfl)
  have hTx : ∀ y, T.ownBlock = some y → y ∉ fp p v := h.fe.owns_off h.owns
  have hk34 : Keeps T.ownBlock.toList w3 w4 := Keeps.grown ((Keeps.refl _ _).alloc o) hgr (fun y e => .inl (by simpa using e))
  have hk35 : Keeps (p :: T.ownBlock.toList) w3 x' := (hk34.mono (fun y hy => .inl (by simp at hy ⊢; exact .inr hy))).trans hk5 (fun y hy => .inl (by simp at hy; subst hy; simp))
  have hgl : g < w3.heap.size := ho.ge.2
  have hgne : g ∉ (p :: T.ownBlock.toList) := fun hm => by
    rcases List.mem_cons.1 hm with e | e
    · exact hpg e.symm
    · exact hgT g (by simpa using e) rfl
  have hox : Own B x' g (be (q ++ l)) (((q ++ l).drop 4).take (be (q ++ l))) := hk35.owns ho (fun y e => by simp [Value.ownBlock] at e; subst e; exact hgne)
  have hlt : ∀ i, (((q ++ l).drop 4).take (be (q ++ l))).getD i 0 < 256 := fun i => by
    have h1 := app_lt h.fe.lt h.ine.row.lt
    by_cases hi : i < be (q ++ l)
    · have e : (((q ++ l).drop 4).take (be (q ++ l))).getD i 0 = (q ++ l).getD (4 + i) 0 := by simp [List.getD, List.getElem?_take, hi]
      rw [e]; exact h1 _
    · rw [getD_out _ _ (by rw [List.length_take]; omega)]; omega
  have hkx' : Keeps (fp p v ++ T.ownBlock.toList) x x' := (hkx3.mono (fun y hy => .inl (List.mem_append.2 (.inl hy)))).trans hk35 (fun y hy => by
    rcases List.mem_cons.1 hy with rfl | hy
    · exact .inl (List.mem_append.2 (.inl hpv))
    · exact .inl (List.mem_append.2 (.inr hy)))
  have hT0 : AllF x (T.ownBlock.toList ++ fp p v) fs := by
    rcases h.owns.2 with ⟨e2, _⟩ | ⟨g2, cp2, cur, e2, _, hg2, _⟩
    · subst e2; exact h.all
    · subst e2; exact h.all.more hg2 (by decide)
  have hall : AllF x' [p] fs := (hT0.keeps hkx' (fun y hy => .inl (by
    rcases List.mem_append.1 hy with q | q
    · exact List.mem_append.2 (.inr q)
    · exact List.mem_append.2 (.inl q)))).less (fun y hy => .inl (by simp at hy; subst hy; exact List.mem_append.2 (.inr hpv)))
  have hgb : v0.ownBlock = some g ∨ w.heap.size ≤ g := by
    rcases hg with e | e
    · exact fp_own h.vs h.fe.vne g e
    · have h1 := hk.size
      have h2 := h.keep.size
      exact .inr (by omega)
  have hnew : AllF x' [p] [(⟨some ⟨g, 0, none⟩, be (q ++ l), ((q ++ l).drop 4).take (be (q ++ l))⟩ : Fr)] := by
    intro f hf
    simp only [List.mem_singleton] at hf
    subst hf
    refine ⟨hox.row hlt, fun y hy => ?_⟩
    simp only [Option.some.injEq] at hy
    subst hy
    refine ⟨by simpa using Ne.symm hpg, ?_⟩
    rcases hox.2 with ⟨e, _⟩ | ⟨g', cp, cur, e, _, hgg, _⟩
    · cases e
    · injection e with e1
      injection e1 with e1
      injection e1 with e1
      subst e1
      exact ⟨cur, hgg⟩
  refine ⟨hin, zc_fe hx h.fe.ge, ?_, hall.app hnew, ?_, ?_, ?_, ?_⟩
  · refine hk5.owns hT (fun y hy hm => ?_)
    simp at hm
    subst hm
    obtain ⟨cs, e⟩ := hp4
    exact row_box hT e (by decide) _ hy rfl
  · refine h.keep.trans hkx' (fun y hy => ?_)
    rcases List.mem_append.1 hy with q | q
    · exact h.vs y q
    · exact .inr (hTn y (by simpa using q))
  · intro y hy
    simp [fp, Value.ownBlock] at hy
    subst hy
    exact .inl (by simp [fp])
  · rw [h.eq, frames_one hb hge, hl']
    simp
  · intro f hf y hy
    rcases List.mem_append.1 hf with q | q
    · exact h.blk f q y hy
    · simp only [List.mem_singleton] at q
      subst q
      simp only [Option.some.injEq] at hy
      subst hy
      exact hgb
end Go.Proofs.Ythbomgjjdmogpaa
