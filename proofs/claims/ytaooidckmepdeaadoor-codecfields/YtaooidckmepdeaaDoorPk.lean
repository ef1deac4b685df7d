/- The document's Request: a field, heads that may not be. -/
import Derived.Test.YtaooidckmepdeaaDoorPj
namespace Go.Proofs.YtaooidckmepdeaaDoor
set_option linter.unusedSimpArgs false
set_option linter.unusedVariables false
open Go.RowKit
theorem pfield_any (w0 x : World) (P : Nat) (st : Ls) (N f : Nat) (k i : Int) (b : Bd) (c : Bool) (ra : Option Addr) (rc : Nat) (hb : RqB b c) (hf : f ≤ 14) (hN : N ≤ 1000000000) (ht : ∀ g, (b g).t.size ≤ 200000) (hl : (b 11).rs.length ≤ 300) (hr : RRow w0 ra (b 11).rs) (hrs : ∀ r, r ∈ (b 11).rs → In64 r.t ∧ r.k.size ≤ 100000 ∧ r.v.size ≤ 100000) (h : PnS w0 P x st N) :
    Calls Tryd.prog 30 #[(.pointer (some ⟨P, 0, none⟩)), .agg #[.int .i64 (wh f), .int .i64 (f : Int)], .agg (gbc k i (fun f => (b f).t) (bn b) c (.slice ra (b 11).rs.length rc) (.slice none 0 0) (.slice none 0 0) (.slice none 0 0))] x (PP w0 P x (oa st (eK (kd f) (b f))) (N + 60400000)) := by
  have up : ∀ {s : Ls} {M : Nat} {e : Ending} {w' : World}, M ≤ N + 60400000 → PP w0 P x s M e w' → PP w0 P x s (N + 60400000) e w' := fun hM q => ⟨q.1, q.2.1.mono hM, q.2.2⟩
  have txt : ∀ g : Nat, g < 2 → Calls Tryd.prog 30 #[(.pointer (some ⟨P, 0, none⟩)), .agg #[.int .i64 1, .int .i64 (g : Int)], .agg (gbc k i (fun f => (b f).t) (bn b) c (.slice ra (b 11).rs.length rc) (.slice none 0 0) (.slice none 0 0) (.slice none 0 0))] x (PP w0 P x (oa st (eText (b g).t)) (N + 60400000)) := fun g hg => Calls.mono (pf_text w0 x P st N g k i (fun f => (b f).t) (bn b) c _ _ _ _ hg (by omega) (by have := ht g; omega) h) (fun e w' q => up (by have := ht g; omega) q)
  have num : ∀ g : Nat, g < 20 → g ≠ 7 → Calls Tryd.prog 30 #[(.pointer (some ⟨P, 0, none⟩)), .agg #[.int .i64 2, .int .i64 (g : Int)], .agg (gbc k i (fun f => (b f).t) (bn b) c (.slice ra (b 11).rs.length rc) (.slice none 0 0) (.slice none 0 0) (.slice none 0 0))] x (PP w0 P x (oa st (some (eInt (b g).n))) (N + 60400000)) := fun g hg h7 => by
    have q := pf_num w0 x P st N g k i (fun f => (b f).t) (bn b) c (.slice ra (b 11).rs.length rc) (.slice none 0 0) (.slice none 0 0) (.slice none 0 0) hg (by omega) h
    rw [show bn b g = (b g).n by simp [bn, h7]] at q
    exact Calls.mono q (fun e w' q => up (by omega) q)
  match f, hf with
  | 0, _ => exact txt 0 (by decide)
  | 1, _ => exact txt 1 (by decide)
  | 2, _ => exact num 2 (by decide) (by decide)
  | 3, _ => exact num 3 (by decide) (by decide)
  | 4, _ => exact num 4 (by decide) (by decide)
  | 5, _ => exact num 5 (by decide) (by decide)
  | 6, _ => exact num 6 (by decide) (by decide)
  | 7, _ =>
    have e7 : eK (kd 7) (b 7) = eNat 1 (bit c) := by rw [← hb.c7]; rfl
    rw [e7]
    cases c
    · exact Calls.mono (pf_flagf w0 x P st N 7 k i (fun f => (b f).t) (bn b) (.slice ra (b 11).rs.length rc) (.slice none 0 0) (.slice none 0 0) (.slice none 0 0) (by omega) h) (fun e w' q => up (by omega) q)
    · exact Calls.mono (pf_flagt w0 x P st N 7 k i (fun f => (b f).t) (bn b) (.slice ra (b 11).rs.length rc) (.slice none 0 0) (.slice none 0 0) (.slice none 0 0) (by omega) h) (fun e w' q => up (by omega) q)
  | 8, _ => exact num 8 (by decide) (by decide)
  | 9, _ => exact num 9 (by decide) (by decide)
  | 10, _ => exact num 10 (by decide) (by decide)
  | 11, _ => exact Calls.mono (pf_recs w0 x P st N 11 k i (fun f => (b f).t) (bn b) c (.slice ra (b 11).rs.length rc) (.slice none 0 0) (.slice none 0 0) (.slice none 0 0) ra rc (b 11).rs rfl (by omega) hl hr hrs h) (fun e w' q => up (by omega) q)
  | 12, _ => exact num 12 (by decide) (by decide)
  | 13, _ => exact num 13 (by decide) (by decide)
  | 14, _ => exact num 14 (by decide) (by decide)
  | n + 15, h => exact absurd h (by omega)
set_option maxRecDepth 100000 in
theorem rq_no0 (k i : Int) (b : Bd) (c : Bool) (ra : Option Addr) (rc : Nat) (w : World) (h1 : k < 1) : Calls Tryd.prog 12 #[.agg (rqc k i b c ra rc)] w fun e w' => e = .returned (.tuple #[.slice none 0 0, .int .i64 1]) ∧ Below w.heap.size w w' := by
  have HX0 : Hid ((w.alloc (.cells (rqc k i b c ra rc) 26)).heap[w.heap.size]? = some (.cells (rqc k i b c ra rc) 26 (0, 0))) := heap_alloc_new w _
  obtain ⟨c0, c1, _⟩ := rq_box HX0.out
  generalize (rqc k i b c ra rc) = cs at *
  go_enter Tryd.func12, Tryd.ntmps12
  go_wp2
  go_ret2
  exact ⟨rfl, below_box _⟩
set_option maxRecDepth 100000 in
theorem rq_no1 (k i : Int) (b : Bd) (c : Bool) (ra : Option Addr) (rc : Nat) (w : World) (h1 : ¬ k < 1) (h2 : k > 8) : Calls Tryd.prog 12 #[.agg (rqc k i b c ra rc)] w fun e w' => e = .returned (.tuple #[.slice none 0 0, .int .i64 1]) ∧ Below w.heap.size w w' := by
  have HX0 : Hid ((w.alloc (.cells (rqc k i b c ra rc) 26)).heap[w.heap.size]? = some (.cells (rqc k i b c ra rc) 26 (0, 0))) := heap_alloc_new w _
  obtain ⟨c0, c1, _⟩ := rq_box HX0.out
  generalize (rqc k i b c ra rc) = cs at *
  go_enter Tryd.func12, Tryd.ntmps12
  go_wp2
  go_ret2
  exact ⟨rfl, below_box _⟩
set_option maxRecDepth 100000 in
theorem rq_no2 (k i : Int) (b : Bd) (c : Bool) (ra : Option Addr) (rc : Nat) (w : World) (h1 : ¬ k < 1) (h2 : ¬ k > 8) (h3 : i < 0) : Calls Tryd.prog 12 #[.agg (rqc k i b c ra rc)] w fun e w' => e = .returned (.tuple #[.slice none 0 0, .int .i64 1]) ∧ Below w.heap.size w w' := by
  have HX0 : Hid ((w.alloc (.cells (rqc k i b c ra rc) 26)).heap[w.heap.size]? = some (.cells (rqc k i b c ra rc) 26 (0, 0))) := heap_alloc_new w _
  obtain ⟨c0, c1, _⟩ := rq_box HX0.out
  generalize (rqc k i b c ra rc) = cs at *
  go_enter Tryd.func12, Tryd.ntmps12
  go_wp2
  go_ret2
  exact ⟨rfl, below_box _⟩
set_option maxRecDepth 100000 in
theorem rq_no3 (k i : Int) (b : Bd) (c : Bool) (ra : Option Addr) (rc : Nat) (w : World) (h1 : ¬ k < 1) (h2 : ¬ k > 8) (h3 : ¬ i < 0) (h4 : i > 4294967295) : Calls Tryd.prog 12 #[.agg (rqc k i b c ra rc)] w fun e w' => e = .returned (.tuple #[.slice none 0 0, .int .i64 1]) ∧ Below w.heap.size w w' := by
  have HX0 : Hid ((w.alloc (.cells (rqc k i b c ra rc) 26)).heap[w.heap.size]? = some (.cells (rqc k i b c ra rc) 26 (0, 0))) := heap_alloc_new w _
  obtain ⟨c0, c1, _⟩ := rq_box HX0.out
  generalize (rqc k i b c ra rc) = cs at *
  go_enter Tryd.func12, Tryd.ntmps12
  go_wp2
  go_ret2
  exact ⟨rfl, below_box _⟩
theorem lat_box {P : Program} {L : List Oper} {Q : Exit → Act → World → Prop} {md : Region.Mode} {S : World → Prop} {n : Nat} (i : Nat) {o : Oper} {r : List Oper} {f : Nat} {l : Array Bool} {a : Act} {w : World} (hi : L.drop i = o :: r) (hsel : Region.noSelect L.toArray = true)
    (hs : (Region.sinkB md L.toArray n && Region.chainB md L.toArray n && decide (n < L.toArray.size) && decide (i < n)) = true) (hf : Region.free md L.toArray l i = true) (hr : (Region.ready md L.toArray l).contains i = true)
    (ty : TypeId) (x : Operand) (ho : o.op = .load ty x) (b : Nat) (cs : Array Value) (hQ : ∀ c a w, Q (.panic c) (a.put o.dst (.agg cs)) w → Q (.panic c) a w) (hw : Region.wanted o (yielded L.toArray a.tmps) = true)
    (hx : a.eval x = .pointer (some ⟨b, 0, none⟩)) (t : TypeId) (d : TypeDesc) (hc : ∀ y, S y → y.heap[b]? = some (.cells cs t (0, 0))) (hu : P.underlying ty = some d) (hd : (match d with | .struct _ | .array _ _ => true | _ => false) = true) (hi2 : (P.info? ty).map (·.size) = some cs.size) (hS : S w)
    (h : LatI P md L.toArray Q S n f (l.setIfInBounds i true) (a.put o.dst (.agg cs)) w) : LatI P md L.toArray Q S n (f + 1) l a w :=
  LatI.take (lat_at hi) hsel hs hf hr hQ (.inl ⟨hw, fun y hy => by
    unfold execOp
    simp only [ho, hx, Instr.loadAt, Instr.sureAddr, Sem.run_bind, Sem.run_pure, Result.andThen_ok, run_loadVar_row y b t ty cs (0, 0) d (hc y hy) hu hd hi2]⟩) hS h
theorem encP_no {w w' : World} (h : Below w.heap.size w w') : EncP none w (.returned (.tuple #[.slice none 0 0, .int .i64 1])) w' := ⟨⟨_, _, rfl, (fun L e => by cases e), fun _ => ⟨rfl, rfl⟩⟩, h⟩
theorem encP_yes {w w' : World} {v : Value} {L : List Nat} (ho : w'.ownsRow w.heap.size 5 1 v L.length (cv L)) (hb : Byt L) (hl : L.length ≤ 1000000000000) (h : Below w.heap.size w w') : EncP (Option.some L) w (.returned (.tuple #[v, .int .i64 0])) w' := ⟨⟨_, _, rfl, (fun L' e => by injection e with e; subst e; exact ⟨rfl, ho, hb, hl⟩), fun e => by cases e⟩, h⟩
theorem run_build71b (k i : Int) (x : World) : (Instr.build 71 #[(0, .int .i64 k), (1, .int .i64 i)]).run Tryd.prog x = .ok (.agg (gbc k i (fun _ => ⟨#[]⟩) (fun _ => 0) false (.slice none 0 0) (.slice none 0 0) (.slice none 0 0) (.slice none 0 0))) x := by
  refine run_build (P := Tryd.prog) x 71 _ _ ?_
  kernel_rfl
end Go.Proofs.YtaooidckmepdeaaDoor
