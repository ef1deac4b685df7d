/- A Feeder and the row of all that it told; rows that lie apart from it; what follows of frames. -/
import Derived.Test.YthbomgjjdmogpaaAw
namespace Go.Proofs.Ythbomgjjdmogpaa
set_option linter.unusedSimpArgs false
set_option linter.unusedVariables false
open Go.RowKit
/-- What more bytes add. -/
theorem frames_feed (a b : List Nat) : frames (a ++ b) = ((frames a).1 ++ (feedS (!(frames a).2.1) (frames a).2.2 b).1, (feedS (!(frames a).2.1) (frames a).2.2 b).2) := by
  cases h : (frames a).2.1
  · rw [frames_no b h]; simp [feedS]
  · rw [frames_yes b h]; simp [feedS]
theorem frames_nil : frames [] = ([], true, []) := frames_short (by simp)
/-- The blocks that a Feeder and its row may write. -/
def ft (p : Nat) (v T : Value) : List Nat := p :: (v.ownBlock.toList ++ T.ownBlock.toList)
theorem mem_ft {p : Nat} {v T : Value} {x : Nat} : x ∈ ft p v T ↔ x = p ∨ v.ownBlock = some x ∨ T.ownBlock = some x := by
  simp [ft]
theorem mem_fp {p : Nat} {v : Value} {x : Nat} : x ∈ fp p v ↔ x = p ∨ v.ownBlock = some x := by simp [fp]
structure Acc (w : World) (B p : Nat) (v : Value) (q : List Nat) (sh : Bool) (T : Value) (fs : List Fr) : Prop where
  fe : FeIs w B p v q sh
  owns : w.ownsRow B 23 1 T fs.length (fs.map Fr.v)
  all : AllF w (fp p v) fs
theorem Acc.lts {w : World} {B p : Nat} {v : Value} {q : List Nat} {sh : Bool} {T : Value} {fs : List Fr} (h : Acc w B p v q sh T fs) : ∀ x ∈ ft p v T, B ≤ x ∧ x < w.heap.size := by
  intro x hx
  rcases mem_ft.1 hx with e | e | e
  · exact h.fe.lts x (mem_fp.2 (.inl e))
  · exact h.fe.lts x (mem_fp.2 (.inr e))
  · exact h.owns.lt x e
/-- A row of frames apart from these blocks. -/
structure Stat (w : World) (E : List Nat) (T : Value) (fs : List Fr) : Prop where
  owns : ∃ B, w.ownsRow B 23 1 T fs.length (fs.map Fr.v)
  off : ∀ x, T.ownBlock = some x → x ∉ E
  all : AllF w E fs
theorem Stat.step {w w' : World} {E E' F : List Nat} {T : Value} {fs : List Fr} (h : Stat w E T fs) (k : Keeps F w w') (hF : ∀ x ∈ F, x ∈ E ∨ w.heap.size ≤ x) (hE : ∀ x ∈ E', x ∈ E ∨ w.heap.size ≤ x) : Stat w' E' T fs := by
  obtain ⟨B, ho⟩ := h.owns
  have hlt : ∀ x, T.ownBlock = some x → x < w.heap.size := fun x hx => (ho.lt x hx).2
  refine ⟨⟨B, k.owns ho (fun x hx hm => ?_)⟩, fun x hx hm => ?_, ?_⟩
  · rcases hF x hm with q | q
    · exact h.off x hx q
    · have := hlt x hx; omega
  · rcases hE x hm with q | q
    · exact h.off x hx q
    · have := hlt x hx; omega
  · have h2 : AllF w (E ++ E') fs := h.all.less (fun x hx => by
      rcases List.mem_append.1 hx with q | q
      · exact .inl q
      · exact hE x q)
    exact (h2.keeps k (fun x hx => by
      rcases hF x hx with q | q
      · exact .inl (List.mem_append.2 (.inl q))
      · exact .inr q)).less (fun x hx => .inl (List.mem_append.2 (.inr hx)))
theorem Stat.read {w : World} {E : List Nat} {T : Value} {fs : List Fr} (h : Stat w E T fs) : ∃ a c, T = .slice a fs.length c ∧ FCells w a fs ∧ fs.length ≤ maxLen ∧ (a = none → c = 0) ∧ ∀ f, f ∈ fs → Row w f.a f.b := by
  obtain ⟨B, ho⟩ := h.owns
  obtain ⟨a, c, e, h1, h2, h3⟩ := owns_frs ho
  exact ⟨a, c, e, h1, h2, h3, fun f hf => (h.all f hf).1⟩
/-- A Feeder apart from these blocks. -/
theorem FeIs.step {w w' : World} {B p : Nat} {v : Value} {q : List Nat} {sh : Bool} {E E' F : List Nat} (h : FeIs w B p v q sh) (ho : ∀ x ∈ fp p v, x ∉ E) (k : Keeps F w w') (hF : ∀ x ∈ F, x ∈ E ∨ w.heap.size ≤ x) (hE : ∀ x ∈ E', x ∈ E ∨ w.heap.size ≤ x) : FeIs w' B p v q sh ∧ ∀ x ∈ fp p v, x ∉ E' := by
  refine ⟨h.keeps k (fun x hx hm => ?_), fun x hx hm => ?_⟩
  · rcases hF x hm with q | q
    · exact ho x hx q
    · have := (h.lts x hx).2; omega
  · rcases hE x hm with q | q
    · exact ho x hx q
    · have := (h.lts x hx).2; omega
/-- What a step of a Feeder with its row leaves. -/
structure Step (w w' : World) (p : Nat) (v T v' T' : Value) : Prop where
  keep : Keeps (ft p v T) w w'
  new : ∀ x ∈ ft p v' T', x ∈ ft p v T ∨ w.heap.size ≤ x
theorem Acc.start {w : World} {B p : Nat} {v : Value} {q : List Nat} {sh : Bool} (h : FeIs w B p v q sh) : Acc w B p v q sh (.slice none 0 0) [] := ⟨h, World.ownsRow_nil _ _ _ _, AllF.nil _ _⟩
/-- Behind Feed: the row is as it was, the new frames stand beside it. -/
theorem Acc.fed {w w2 : World} {B p : Nat} {v : Value} {q : List Nat} {sh : Bool} {T : Value} {fs : List Fr} (h : Acc w B p v q sh T fs) (hB : B ≤ w.heap.size) {v' : Value} {q' : List Nat} {sh' : Bool} {Tz : Value} {fz : List Fr}
    (ho : w2.ownsRow w.heap.size 23 1 Tz fz.length (fz.map Fr.v)) (ha : AllF w2 (fp p v') fz) (hf : FeIs w2 B p v' q' sh') (hk : Keeps (fp p v) w w2) (hv : ∀ x, v'.ownBlock = some x → v.ownBlock = some x ∨ w.heap.size ≤ x) :
    Acc w2 B p v' q' sh' T fs ∧ Step w w2 p v T v' T ∧ (∃ a c, Tz = .slice a fz.length c ∧ FCells w2 a fz ∧ (a = none → c = 0)) := by
  have hn : ∀ x ∈ fp p v', x ∈ fp p v ∨ w.heap.size ≤ x := fun x hx => by
    rcases mem_fp.1 hx with e | e
    · exact .inl (mem_fp.2 (.inl e))
    · rcases hv x e with q | q
      · exact .inl (mem_fp.2 (.inr q))
      · exact .inr q
  have hall : AllF w (fp p v ++ fp p v') fs := h.all.less (fun x hx => by
    rcases List.mem_append.1 hx with q | q
    · exact .inl q
    · exact hn x q)
  refine ⟨⟨hf, hk.owns h.owns (h.fe.owns_off h.owns), (hall.keeps hk (fun x hx => .inl (List.mem_append.2 (.inl hx)))).less (fun x hx => .inl (List.mem_append.2 (.inr hx)))⟩, ⟨hk.mono (fun x hx => .inl (mem_ft.2 (by rcases mem_fp.1 hx with e | e; exact .inl e; exact .inr (.inl e)))), fun x hx => ?_⟩, ?_⟩
  · rcases mem_ft.1 hx with e | e | e
    · exact .inl (mem_ft.2 (.inl e))
    · rcases hv x e with q | q
      · exact .inl (mem_ft.2 (.inr (.inl q)))
      · exact .inr q
    · exact .inl (mem_ft.2 (.inr (.inr e)))
  · obtain ⟨a, c, e, h1, _, h3⟩ := owns_frs ho
    exact ⟨a, c, e, h1, h3⟩
/-- Behind the append to the row. -/
theorem Acc.app {w w3 : World} {B p : Nat} {v : Value} {q : List Nat} {sh : Bool} {T T' : Value} {fs fz : List Fr} (h : Acc w B p v q sh T fs) (hz : AllF w (fp p v) fz)
    (ho : w3.ownsRow B 23 1 T' (fs ++ fz).length ((fs ++ fz).map Fr.v)) (hg : w.grownBy w3 T.ownBlock) (hT : T'.ownBlock = T.ownBlock ∨ ∀ x, T'.ownBlock = some x → w.heap.size ≤ x) : Acc w3 B p v q sh T' (fs ++ fz) ∧ Step w w3 p v T v T' := by
  have hk : Keeps T.ownBlock.toList w w3 := Keeps.grown (Keeps.refl _ _) hg (fun x e => .inl (by simpa using e))
  have hall : AllF w (T.ownBlock.toList ++ fp p v) (fs ++ fz) := by
    have h1 := h.all.app hz
    rcases h.owns.2 with ⟨e, _⟩ | ⟨g, cp, cur, e, _, hgg, _⟩
    · subst e; exact h1
    · subst e; exact h1.more hgg (by decide)
  refine ⟨⟨h.fe.keeps hk (fun x hx hm => h.fe.owns_off h.owns x (by simpa using hm) hx), ho, (hall.keeps hk (fun x hx => .inl (List.mem_append.2 (.inl hx)))).less (fun x hx => .inl (List.mem_append.2 (.inr hx)))⟩, ⟨hk.mono (fun x hx => .inl (mem_ft.2 (.inr (.inr (by simpa using hx))))), fun x hx => ?_⟩⟩
  rcases mem_ft.1 hx with e | e | e
  · exact .inl (mem_ft.2 (.inl e))
  · exact .inl (mem_ft.2 (.inr (.inl e)))
  · rcases hT with q | q
    · exact .inl (mem_ft.2 (.inr (.inr (by rw [← q]; exact e))))
    · exact .inr (q x e)
theorem Step.trans {w w1 w2 : World} {p : Nat} {v T v1 T1 v2 T2 : Value} (h : Step w w1 p v T v1 T1) (k : Step w1 w2 p v1 T1 v2 T2) : Step w w2 p v T v2 T2 := by
  refine ⟨h.keep.trans k.keep (fun x hx => h.new x hx), fun x hx => ?_⟩
  rcases k.new x hx with q | q
  · exact h.new x q
  · have := h.keep.size; exact .inr (by omega)
theorem Step.below {W w w' : World} {B p : Nat} {v T v' T' : Value} (h : Step w w' p v T v' T') (hb : Below B W w) (hB : B ≤ w.heap.size) (hl : ∀ x ∈ ft p v T, B ≤ x) : Below B W w' := hb.trans (h.keep.below hl hB)
/-- Bytes of an argument lie apart from whatever the call has made. -/
theorem InE.arg {w0 w : World} {B : Nat} {a : Option Addr} {cap : Nat} {l : List Nat} {E : List Nat} (h : InE w0 [] a cap l) (hb : Below B w0 w) (hB : w0.heap.size = B) (hE : ∀ x ∈ E, B ≤ x) : InE w E a cap l := by
  subst hB
  exact h.to (Keeps.of_below hb []) (fun x hx => .inr (hE x hx))
theorem InE.take {w : World} {E : List Nat} {a : Option Addr} {cap : Nat} {l : List Nat} (h : InE w E a cap l) (n : Nat) : InE w E a cap (l.take n) := by
  have h1 := h.le
  refine ⟨row_take h.row n, by rw [List.length_take]; omega, h.max, h.nil, fun h0 => h.off (by rw [List.length_take] at h0; omega)⟩
theorem run_slice_mid (w : World) (a : Option Addr) (len cap k m : Nat) (h1 : k + m ≤ len) (h2 : len ≤ cap) : (Instr.slice 23 (.slice a len cap) (some (.int .i64 (k : Int))) (some (.int .i64 ((k + m : Nat) : Int))) none).run Try.prog w = .ok (.slice (cutA a cap k) m (cap - k)) w := by
  have hs : (sizeOf 5).run Try.prog w = .ok 1 w := by
    obtain ⟨i, hi, e⟩ := Option.map_eq_some_iff.1 Try.info5s
    simp [sizeOf, typeInfo, hi, e]
  have h3 : (0 : Int) ≤ (k : Int) ∧ (k : Int) ≤ ((k + m : Nat) : Int) := by omega
  have h4 : (0 : Int) ≤ ((k + m : Nat) : Int) ∧ ((k + m : Nat) : Int) ≤ (cap : Int) := by omega
  simp [Instr.slice, run_underlying Try.underlying23, Instr.sliceBounds, Instr.sliceBound, asIntOf, h3, h4, hs, cutA]
  have e1 : ((k : Int) + (m : Int)).toNat = k + m := by omega
  rw [if_pos (by omega), e1, if_pos (by omega), Nat.add_sub_cancel_left]
/-- A piece of the bytes, fed to a Feeder with its row: all that a walk wants of it. -/
theorem Acc.feed {W w : World} {B p : Nat} {v : Value} {l : List Nat} {k m : Nat} {T : Value} {fs : List Fr} (h : Acc w B p v (frames (l.take k)).2.2 (!(frames (l.take k)).2.1) T fs) (hm : fs.map (·.b) = (frames (l.take k)).1) (hb : Below B W w) (hB : B ≤ w.heap.size) {a : Option Addr} {cap : Nat} (hi : InE w (fp p v) a cap ((l.drop k).take m)) (hk : k + m ≤ l.length) (hl : l.length ≤ 1000000) :
    Calls Try.prog 12 #[.pointer (some ⟨p, 0, none⟩), .slice a m cap] w fun e w2 => ∃ az cz fz v', e = .returned (.tuple #[.slice az fz.length cz, .bool (frames (l.take (k + m))).2.1]) ∧ Acc w2 B p v' (frames (l.take (k + m))).2.2 (!(frames (l.take (k + m))).2.1) T fs ∧ Step w w2 p v T v' T ∧ FCells w2 az fz ∧ (az = none → cz = 0) ∧ AllF w2 (fp p v') fz ∧ (fs ++ fz).map (·.b) = (frames (l.take (k + m))).1 ∧ Below B W w2 ∧ fs.length + fz.length ≤ 1000000 ∧ (∀ f, f ∈ fz → ∀ x, f.a = some x → v.ownBlock = some x.block ∨ w.heap.size ≤ x.block) := by
  have hlen : ((l.drop k).take m).length = m := by rw [List.length_take, List.length_drop]; omega
  have hf := feed_any B p v _ _ a cap _ w h.fe hi hB (by omega)
  rw [hlen] at hf
  refine hf.mono ?_
  rintro e w2 ⟨Tz, fz, v', rfl, ho, hfz, hall, hfe, hk2, hv, hbl⟩
  have e1 : l.take (k + m) = l.take k ++ (l.drop k).take m := List.take_add
  have e2 := frames_feed (l.take k) ((l.drop k).take m)
  rw [← e1] at e2
  obtain ⟨h1, h2, az, cz, rfl, h3, h4⟩ := h.fed hB ho hall hfe hk2 hv
  have hfr : (fs ++ fz).map (·.b) = (frames (l.take (k + m))).1 := by rw [List.map_append, hm, hfz, e2]
  rw [e2]
  refine ⟨az, cz, fz, v', rfl, h1, h2, h3, h4, hall, by rw [← e2]; exact hfr, h2.below hb hB (fun x hx => (h.lts x hx).1), ?_, hbl⟩
  have hc := frames_count (l.take (k + m))
  rw [← hfr, List.length_map, List.length_append, List.length_take] at hc
  omega
theorem frames_len (l : List Nat) : ∀ f, f ∈ (frames l).1 → f.length ≤ 8192 := by
  suffices ∀ n (l : List Nat), l.length ≤ n → ∀ f, f ∈ (frames l).1 → f.length ≤ 8192 from this l.length l (Nat.le_refl _)
  intro n
  induction n with
  | zero =>
    intro l h f hf
    obtain rfl : l = [] := List.length_eq_zero_iff.1 (by omega)
    rw [frames_nil] at hf
    simp at hf
  | succ n ih =>
    intro a h f hf
    by_cases h4 : a.length < 4
    · rw [frames_short h4] at hf; simp at hf
    by_cases h5 : 8192 < be a
    · rw [frames_bad (l := a) (by omega) h5] at hf; simp at hf
    by_cases h6 : a.length < 4 + be a
    · rw [frames_part (l := a) (by omega) h6] at hf; simp at hf
    rw [frames_one (l := a) (by omega) (by omega)] at hf
    rcases List.mem_cons.1 hf with rfl | hf
    · rw [List.length_take]; omega
    · exact ih _ (by rw [List.length_drop]; omega) f hf
/-- Rows that were told alike are alike. -/
theorem same_told {w : World} {B B' : Nat} {T T' : Value} {fs fs' : List Fr} {E E' : List Nat} (ho : w.ownsRow B 23 1 T fs.length (fs.map Fr.v)) (ho' : w.ownsRow B' 23 1 T' fs'.length (fs'.map Fr.v)) (ha : AllF w E fs) (ha' : AllF w E' fs') (he : fs.map (·.b) = fs'.map (·.b)) (hl : ∀ f, f ∈ fs.map (·.b) → f.length ≤ 8192) :
    Calls Try.prog 14 #[T, T'] w fun e w' => e = .returned (.bool true) ∧ ∃ n, w' = w.drewN n := by
  obtain ⟨a, c, rfl, h1, h2, _⟩ := owns_frs ho
  obtain ⟨a', c', rfl, h1', h2', _⟩ := owns_frs ho'
  have hl' := hl
  rw [he] at hl'
  have := same_any a c fs a' c' fs' w h1 h1' (fun f hf => ⟨(ha f hf).1, by have := hl f.b (List.mem_map.2 ⟨f, hf, rfl⟩); unfold maxLen; omega⟩) (fun f hf => ⟨(ha' f hf).1, by have := hl' f.b (List.mem_map.2 ⟨f, hf, rfl⟩); unfold maxLen; omega⟩) h2 h2'
  rw [decide_eq_true he] at this
  exact this
theorem FeIs.drewN {w : World} {B p : Nat} {v : Value} {q : List Nat} {sh : Bool} (h : FeIs w B p v q sh) (n : Nat) : FeIs (w.drewN n) B p v q sh := h.keeps ((Keeps.refl [] w).drewN n) (by simp)
/-- Bytes that came in. -/
def Came (w : World) (a : Option Addr) (cap : Nat) (l : List Nat) : Prop := InE w [] a cap l ∧ l.length ≤ 140737488351232
end Go.Proofs.Ythbomgjjdmogpaa
