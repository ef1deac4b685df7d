/- What stays while steps are done: blocks below B, blocks E, the table of crc; a journal apart from them. -/
import Derived.Test.YtohncckmennfbaaDoorJm
import Derived.Test.YtohncckmennfbaaDoorJt
import Derived.Test.YtohncckmennfbaaDoorJc
namespace Go.Proofs.YtohncckmennfbaaDoor
set_option linter.unusedSimpArgs false
set_option linter.unusedVariables false
open Go.RowKit Go.MapKept Go.Proofs
/-- These blocks are as they were. -/
def Same (G : List Nat) (w w' : World) : Prop := ∀ g ∈ G, w'.heap[g]? = w.heap[g]?
structure Fr (B : Nat) (E : List Nat) (w1 w : World) : Prop where
  bel : Below B w1 w
  same : Same E w1 w
  lt : ∀ x ∈ E, x < w1.heap.size
  big : B ≤ w1.heap.size
  pos : 0 < B
  tab0 : Tab w1
theorem Fr.start {B : Nat} {E : List Nat} {w : World} (h1 : ∀ x ∈ E, x < w.heap.size) (h2 : B ≤ w.heap.size) (h3 : 0 < B) (h4 : Tab w) : Fr B E w w := ⟨Below.refl _ _, fun _ _ => rfl, h1, h2, h3, h4⟩
theorem Fr.tab {B : Nat} {E : List Nat} {w1 w : World} (h : Fr B E w1 w) : Tab w := by
  intro i hi
  have := h.tab0 i hi
  rw [← this]
  exact cell_blk (h.bel.block 0 h.pos)
theorem Fr.size {B : Nat} {E : List Nat} {w1 w : World} (h : Fr B E w1 w) : w1.heap.size ≤ w.heap.size := h.bel.size
theorem Fr.ltw {B : Nat} {E : List Nat} {w1 w : World} (h : Fr B E w1 w) : ∀ x ∈ E, x < w.heap.size := fun x hx => Nat.lt_of_lt_of_le (h.lt x hx) h.size
theorem Fr.keeps {B : Nat} {E : List Nat} {w1 w w' : World} (h : Fr B E w1 w) {FP : List Nat} (k : Keeps FP w w') (hF : ∀ x ∈ FP, B ≤ x ∧ x ∉ E) : Fr B E w1 w' :=
  ⟨h.bel.trans (k.below (fun x hx => (hF x hx).1) (Nat.le_trans h.big h.size)), fun x hx => (k.block x (h.ltw x hx) (fun q => (hF x q).2 hx)).trans (h.same x hx), h.lt, h.big, h.pos, h.tab0⟩
theorem Fr.below {B : Nat} {E : List Nat} {w1 w w' : World} (h : Fr B E w1 w) (hb : Below w.heap.size w w') : Fr B E w1 w' := h.keeps (Keeps.of_below hb []) (by simp)
/-- On from a later start. -/
theorem Fr.trans {B : Nat} {E E2 : List Nat} {w1 w2 w3 : World} (h : Fr B E w1 w2) (g : Fr B E2 w2 w3) (hE : ∀ x ∈ E, x ∈ E2) : Fr B E w1 w3 :=
  ⟨h.bel.trans g.bel, fun x hx => (g.same x (hE x hx)).trans (h.same x hx), h.lt, h.big, h.pos, h.tab0⟩
theorem Fr.box {B : Nat} {E : List Nat} {w1 w : World} (h : Fr B E w1 w) {x i : Nat} (hx : x ∈ E) : w.cell? ⟨x, i, none⟩ = w1.cell? ⟨x, i, none⟩ := cell_blk (h.same x hx)
def DP (B : Nat) (E : List Nat) (w : World) (dp : Nat) (d : Dv) : Prop := ∃ F, Dev w dp F d ∧ ∀ x ∈ F, B ≤ x ∧ x ∉ E
def JP (B : Nat) (E : List Nat) (w : World) (j dp : Nat) (d : Dv) (T : List (List Nat)) (off : Bool) : Prop := ∃ FP, Jour w j dp FP d T off ∧ ∀ x ∈ FP, B ≤ x ∧ x ∉ E
theorem JP.below {B : Nat} {E : List Nat} {w w' : World} {j dp : Nat} {d : Dv} {T : List (List Nat)} {off : Bool} (h : JP B E w j dp d T off) (hb : Below w.heap.size w w') : JP B E w' j dp d T off := by
  obtain ⟨FP, hj, hF⟩ := h; exact ⟨FP, hj.below hb, hF⟩
theorem DP.below {B : Nat} {E : List Nat} {w w' : World} {dp : Nat} {d : Dv} (h : DP B E w dp d) (hb : Below w.heap.size w w') : DP B E w' dp d := by
  obtain ⟨F, hj, hF⟩ := h; exact ⟨F, hj.below hb, hF⟩
theorem JP.ok {B : Nat} {E : List Nat} {w : World} {j dp : Nat} {d : Dv} {T : List (List Nat)} {off : Bool} (h : JP B E w j dp d T off) : d.Ok := by
  obtain ⟨FP, hj, hF⟩ := h; exact hj.ok
theorem DP.ok {B : Nat} {E : List Nat} {w : World} {dp : Nat} {d : Dv} (h : DP B E w dp d) : d.Ok := by
  obtain ⟨FP, hj, hF⟩ := h; exact hj.ok
/-- Other blocks: fewer, or new ones. -/
theorem JP.ext {B : Nat} {E E' : List Nat} {w : World} {j dp : Nat} {d : Dv} {T : List (List Nat)} {off : Bool} (h : JP B E w j dp d T off) (hE : ∀ x ∈ E', x ∈ E ∨ w.heap.size ≤ x) : JP B E' w j dp d T off := by
  obtain ⟨FP, hj, hF⟩ := h
  exact ⟨FP, hj, fun x hx => ⟨(hF x hx).1, fun q => by rcases hE x q with a | a; exact (hF x hx).2 a; have := hj.lt x hx; omega⟩⟩
theorem DP.ext {B : Nat} {E E' : List Nat} {w : World} {dp : Nat} {d : Dv} (h : DP B E w dp d) (hE : ∀ x ∈ E', x ∈ E ∨ w.heap.size ≤ x) : DP B E' w dp d := by
  obtain ⟨FP, hj, hF⟩ := h
  exact ⟨FP, hj, fun x hx => ⟨(hF x hx).1, fun q => by rcases hE x q with a | a; exact (hF x hx).2 a; have := hj.lt x hx; omega⟩⟩
theorem JP.dev {B : Nat} {E : List Nat} {w : World} {j dp : Nat} {d : Dv} {T : List (List Nat)} {off : Bool} (h : JP B E w j dp d T off) : DP B E w dp d := by
  obtain ⟨FP, ⟨F, lb, rfl, hd, _⟩, hF⟩ := h
  exact ⟨F, hd, fun x hx => hF x (by simp [hx])⟩
/-- The device goes on, the journal stays. -/
theorem Jour.step {w w' : World} {j dp : Nat} {F : List Nat} {lb : Nat} {d' : Dv} {T : List (List Nat)} {off : Bool} {F' : List Nat} (hj : JourIs w j lb dp T off) (h1 : j ∉ F) (h2 : lb ∉ F) (hd : Dev w' dp F' d') (k : Keeps F w w') (g : Grows w F F') : Jour w' j dp (j :: lb :: F') d' T off := by
  refine ⟨F', lb, rfl, hd, hj.blk (k.block j hj.lt.1 h1) (k.block lb hj.lt.2 h2), fun q => ?_, fun q => ?_⟩
  · rcases g j q with a | a
    · exact h1 a
    · have := hj.lt.1; omega
  · rcases g lb q with a | a
    · exact h2 a
    · have := hj.lt.2; omega
/-- A call on the device alone. -/
theorem JP.step {B : Nat} {E : List Nat} {w1 w w' : World} {j dp : Nat} {d' : Dv} {T : List (List Nat)} {off : Bool} (hFr : Fr B E w1 w) {F F' : List Nat} {lb : Nat} (hj : JourIs w j lb dp T off) (h1 : j ∉ F) (h2 : lb ∉ F) (hF : ∀ x ∈ j :: lb :: F, B ≤ x ∧ x ∉ E)
    (hd : Dev w' dp F' d') (k : Keeps F w w') (g : Grows w F F') : Fr B E w1 w' ∧ JP B E w' j dp d' T off := by
  refine ⟨hFr.keeps k (fun x hx => hF x (by simp [hx])), _, Jour.step hj h1 h2 hd k g, fun x hx => ?_⟩
  rcases List.mem_cons.1 hx with rfl | hx
  · exact hF _ (by simp)
  · rcases List.mem_cons.1 hx with rfl | hx
    · exact hF _ (by simp)
    · rcases g x hx with a | a
      · exact hF x (by simp [a])
      · exact ⟨by have := hFr.big; have := hFr.size; omega, fun q => by have := hFr.ltw x q; omega⟩
theorem DP.step {B : Nat} {E : List Nat} {w1 w w' : World} {dp : Nat} {d' : Dv} (hFr : Fr B E w1 w) {F F' : List Nat} (hF : ∀ x ∈ F, B ≤ x ∧ x ∉ E) (hd : Dev w' dp F' d') (k : Keeps F w w') (g : Grows w F F') : Fr B E w1 w' ∧ DP B E w' dp d' := by
  refine ⟨hFr.keeps k hF, _, hd, fun x hx => ?_⟩
  rcases g x hx with a | a
  · exact hF x a
  · exact ⟨by have := hFr.big; have := hFr.size; omega, fun q => by have := hFr.ltw x q; omega⟩
/-- The table that a map, or no map, asks for. -/
def TabArg (n : Nat) (w : World) (v : Value) (T : List (List Nat)) : Prop := (v = .map none ∧ T = []) ∨ ∃ lb m, v = .map (some lb) ∧ MapIs w lb mkP (lv T) m ∧ GoodT n T
theorem table_v (n : Nat) (v : Value) (T : List (List Nat)) (w : World) (h : TabArg n w v T) (hn : n ≤ 65536) (ht : Tab w) :
    Calls Tryd.prog 71 #[v] w fun e w' => ∃ g, e = .returned (.slice (some ⟨g, 0, none⟩) 512 512) ∧ Full w' g 5 (tabL T) ∧ w.heap.size ≤ g ∧ Below w.heap.size w w' := by
  rcases h with ⟨rfl, rfl⟩ | ⟨lb, m, rfl, hM, hT⟩
  · exact table_nil w ht
  · exact table_any lb m n T w hM hT hn ht
theorem TabArg.heap {n : Nat} {w w' : World} {v : Value} {T : List (List Nat)} (h : TabArg n w v T) (e : w'.heap = w.heap) : TabArg n w' v T := by
  rcases h with q | ⟨lb, m, h1, hM, hT⟩
  · exact .inl q
  · exact .inr ⟨lb, m, h1, hM.blk (by rw [e]), hT⟩
theorem tabL_len (T : List (List Nat)) : (tabL T).length = 512 := tabN_len _
theorem tabL_lt (T : List (List Nat)) : ∀ i, (tabL T).getD i 0 < 256 := tabN_lt _
/-- writeTable's first step. -/
theorem wt1_any {w : World} {dp : Nat} {F : List Nat} {d : Dv} {db vb : Nat} {v : Value} {T : List (List Nat)} (hd : Dev w dp F d) (hdb : w.cell? ⟨db, 0, none⟩ = some (.pointer (some ⟨dp, 0, none⟩))) (hvb : w.cell? ⟨vb, 0, none⟩ = some v) (hv : ∃ r, v = .map r)
    (hT : TabArg d.n w v T) (ht : Tab w) (ho : d.ops < 1000000) :
    Calls Tryd.prog 69 #[.pointer (some ⟨db, 0, none⟩), .pointer (some ⟨vb, 0, none⟩)] w fun e w' => e = .returned (.int .i64 (d.wcode 0 512)) ∧ ∃ F', Dev w' dp F' (d.wrote 0 (tabL T)) ∧ Keeps F w w' ∧ Grows w F F' := by
  obtain ⟨r, rfl⟩ := hv
  have hn := hd.ok.n2
  have HT : Hid (∀ w', w'.heap = w.heap → Calls Tryd.prog 71 #[.map r] w' fun e w'' => ∃ g, e = .returned (.slice (some ⟨g, 0, none⟩) 512 512) ∧ Full w'' g 5 (tabL T) ∧ w'.heap.size ≤ g ∧ Below w'.heap.size w' w'') :=
    fun w' e => table_v d.n _ T w' (hT.heap e) hn (by intro i hi; rw [← ht i hi]; exact cell_blk (by rw [e]))
  have HW : Hid (∀ (w' : World) (g : Nat), Below w.heap.size w w' → Full w' g 5 (tabL T) → w.heap.size ≤ g → Calls Tryd.prog 70 #[.pointer (some ⟨dp, 0, none⟩), .int .i64 0, .slice (some ⟨g, 0, none⟩) 512 512] w' fun e w'' => e = .returned (.int .i64 (d.wcode 0 512)) ∧ ∃ F', Dev w'' dp F' (d.wrote 0 (tabL T)) ∧ Keeps F w w'' ∧ Grows w F F') := fun w' g hb hf hg => by
    have := writeD (hd.below hb) (0 : Int) g (tabL T) (ty := 5) (by decide) hf (tabL_lt T) (by rw [tabL_len]; omega) ho
    rw [tabL_len] at this
    refine this.mono ?_
    rintro e w'' ⟨rfl, F', h1, h2, h3⟩
    exact ⟨rfl, F', h1, (Keeps.of_below hb F).trans h2 (fun x hx => .inl hx), fun x hx => (h3 x hx).imp id (fun q => Nat.le_trans hb.size q)⟩
  clear hT ht
  go_enter Tryd.func69, Tryd.ntmps69
  go_wp2
  go_region_with (first
    | (go_at_call 71; refine (HT.out _ (by rfl)).mono ?_; rintro e w2 ⟨g, rfl, hful, hge, hbel⟩; have hb2 : Below w.heap.size w w2 := ⟨hbel.os, hbel.tape, hbel.output, hbel.size, hbel.block⟩; have hdb2 := hdb; rw [← hb2.cell (World.block_lt_of_cell? _ _ hdb)] at hdb2)
    | (go_at_call 70; refine (HW.out _ g ⟨hb2.os, hb2.tape, hb2.output, hb2.size, hb2.block⟩ hful hge).mono ?_; rintro e w3 ⟨rfl, hpost⟩))
  all_goals go_wp2
  all_goals go_ret
  all_goals exact ⟨rfl, hpost⟩
end Go.Proofs.YtohncckmennfbaaDoor
