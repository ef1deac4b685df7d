/- What a Log knows, and what it tells, as functions. -/
import Derived.Test.YtnnljdnaipjoiaaRb
import Derived.Test.YtnnljdnaipjoiaaMp
namespace Go.Proofs.Ytnnljdnaipjoiaa
set_option linter.unusedSimpArgs false
set_option linter.unusedVariables false
/-- Two records alike. -/
def sameR (a b : Rc) : Bool := decide (a.hk = b.hk ∧ a.k = b.k ∧ a.hv = b.hv ∧ a.v = b.v ∧ a.t = b.t ∧ a.o = b.o)
theorem sameR_iff {a b : Rc} : sameR a b = true ↔ a = b := by
  obtain ⟨a1, a2, a3, a4, a5, a6⟩ := a
  obtain ⟨b1, b2, b3, b4, b5, b6⟩ := b
  simp [sameR]
theorem sameR_self (a : Rc) : sameR a a = true := sameR_iff.2 rfl
def sameI (a b : Int) : Bool := decide (a = b)
section
variable {κ ν : Type} [DecidableEq κ]
/-- One key more, unless it has another value. -/
def agr (e : ν → ν → Bool) (known fresh : κ → Option ν) (k : κ) (v : ν) : Option (κ → Option ν) :=
  match (known k).or (fresh k) with
  | some u => if e u v = true then some fresh else none
  | none => some (fun x => if x = k then some v else fresh x)
def agrs (e : ν → ν → Bool) (known : κ → Option ν) : List (κ × ν) → (κ → Option ν) → Option (κ → Option ν)
  | [], f => some f
  | x :: r, f => (agr e known f x.1 x.2).bind (agrs e known r)
theorem agrs_app (e : ν → ν → Bool) (known : κ → Option ν) (a b : List (κ × ν)) (f : κ → Option ν) : agrs e known (a ++ b) f = (agrs e known a f).bind (agrs e known b) := by
  induction a generalizing f with
  | nil => rfl
  | cons x r ih =>
    show (agr e known f x.1 x.2).bind (agrs e known (r ++ b)) = ((agr e known f x.1 x.2).bind (agrs e known r)).bind (agrs e known b)
    cases agr e known f x.1 x.2 with
    | none => rfl
    | some g => exact ih g
theorem agrs_one (e : ν → ν → Bool) (known : κ → Option ν) (k : κ) (v : ν) (f : κ → Option ν) : agrs e known [(k, v)] f = agr e known f k v := by
  show (agr e known f k v).bind (agrs e known []) = _
  cases agr e known f k v <;> rfl
end
/-- What is known: bounds, records, bases. -/
structure LS where
  bn : PK → Option (Int × Int)
  rc : SK → Option Rc
  bs : TK → Option Int
def ls0 : LS := ⟨fun _ => none, fun _ => none, fun _ => none⟩
def fallsB (S : LS) (p : PK) (st nx : Int) : Bool := (match S.bn p with | some q => decide (st < q.1) || decide (nx < q.2) | none => false) || decide (nx < st)
def baz : Ba := ⟨0, 0, 0, 0, []⟩
/-- The batch at i is where it may be. -/
def okAt (bs : List Ba) (from' st nx : Int) (i : Nat) : Bool :=
  !(decide ((bs.getD i baz).base < from') && decide ((bs.getD i baz).base + (bs.getD i baz).span ≤ from')) && decide ((bs.getD i baz).base + (bs.getD i baz).span ≤ nx) && decide (st < (bs.getD i baz).base + (bs.getD i baz).span) &&
    (decide (i = 0) || (decide ((bs.getD (i - 1) baz).base < (bs.getD i baz).base) && decide ((bs.getD (i - 1) baz).base + (bs.getD (i - 1) baz).span ≤ (bs.getD i baz).base)))
def placedB (bs : List Ba) (from' st nx : Int) : Bool := (List.range bs.length).all (okAt bs from' st nx)
theorem placed_all {bs : List Ba} {from' st nx : Int} : placedB bs from' st nx = true ↔ ∀ i, i < bs.length → okAt bs from' st nx i = true := by
  simp [placedB]
theorem placed_no {bs : List Ba} {from' st nx : Int} {i : Nat} (hi : i < bs.length) (h : okAt bs from' st nx i = false) : placedB bs from' st nx = false := by
  cases hp : placedB bs from' st nx with
  | false => rfl
  | true => rw [placed_all.1 hp i hi] at h; cases h
def Rc.own (r : Rc) : Rc := { r with o := 0 }
/-- The records of one batch, by their places. -/
def recK (p : PK) (b : Ba) : List (SK × Rc) := b.rs.map fun r => ((p.1, p.2, b.base + r.o), r.own)
def recKs (p : PK) (bs : List Ba) : List (SK × Rc) := (bs.map (recK p)).flatten
def batK (p : PK) (b : Ba) : List (TK × Int) := if 0 < b.prod then [((p.1, p.2, b.prod, b.seq), b.base)] else []
def batKs (p : PK) (bs : List Ba) : List (TK × Int) := (bs.map (batK p)).flatten
theorem recKs_snoc (p : PK) (bs : List Ba) (k : Nat) (h : k < bs.length) : recKs p (bs.take (k + 1)) = recKs p (bs.take k) ++ recK p (bs.getD k baz) := by
  unfold recKs
  rw [List.take_succ_eq_append_getElem h, List.map_append, List.flatten_append]
  simp only [List.map_cons, List.map_nil, List.flatten_cons, List.flatten_nil, List.append_nil, List.getD, List.getElem?_eq_getElem h, Option.getD_some]
theorem batKs_snoc (p : PK) (bs : List Ba) (k : Nat) (h : k < bs.length) : batKs p (bs.take (k + 1)) = batKs p (bs.take k) ++ batK p (bs.getD k baz) := by
  unfold batKs
  rw [List.take_succ_eq_append_getElem h, List.map_append, List.flatten_append]
  simp only [List.map_cons, List.map_nil, List.flatten_cons, List.flatten_nil, List.append_nil, List.getD, List.getElem?_eq_getElem h, Option.getD_some]
/-- The first j of one batch's. -/
def recJ (p : PK) (b : Ba) (j : Nat) : List (SK × Rc) := (recK p b).take j
theorem recJ_zero (p : PK) (b : Ba) : recJ p b 0 = [] := rfl
theorem recJ_all (p : PK) (b : Ba) : recJ p b b.rs.length = recK p b := List.take_of_length_le (by simp [recK])
theorem recJ_snoc (p : PK) (b : Ba) (j : Nat) (h : j < b.rs.length) : recJ p b (j + 1) = recJ p b j ++ [((p.1, p.2, b.base + (b.rs.getD j rz).o), (b.rs.getD j rz).own)] := by
  unfold recJ
  rw [List.take_succ_eq_append_getElem (by simpa [recK] using h)]
  simp [recK, List.getD, h]
/-- What Saw tells, and what is known behind it. -/
def saw (S : LS) (p : PK) (st nx from' : Int) (bs : List Ba) : Int × LS :=
  if fallsB S p st nx = true then (1, S) else
  if placedB bs from' st nx = false then (2, S) else
  match agrs sameR S.rc (recKs p bs) (fun _ => none) with
  | none => (3, S)
  | some fr =>
    match agrs sameI S.bs (batKs p bs) (fun _ => none) with
    | none => (4, S)
    | some fb => (0, ⟨fun x => if x = p then some (st, nx) else S.bn x, fun x => (fr x).or (S.rc x), fun x => (fb x).or (S.bs x)⟩)
def vR (r : Rc) : Value := .agg r.cells
def vB (q : Int × Int) : Value := .agg #[.int .i64 q.1, .int .i64 q.2]
def vI (z : Int) : Value := .int .i64 z
theorem put_map {κ ν : Type} [DecidableEq κ] (f : κ → Option ν) (g : ν → Value) (k : κ) (v : ν) : put (fun x => (f x).map g) k (g v) = fun x => ((fun x => if x = k then some v else f x) x).map g := by
  funext x
  unfold put
  by_cases h : x = k <;> simp [h]
/-- A map of records, bounds, bases. -/
abbrev MS (w : World) (b : Nat) (F : SK → Option Rc) : Prop := ∃ n, MapIs w b mkS (fun x => (F x).map vR) n
abbrev MT (w : World) (b : Nat) (F : TK → Option Int) : Prop := ∃ n, MapIs w b mkT (fun x => (F x).map vI) n
abbrev MP (w : World) (b : Nat) (F : PK → Option (Int × Int)) : Prop := ∃ n, MapIs w b mkP (fun x => (F x).map vB) n
theorem zero48 (w : World) : (zeroValue 48).run Try.prog w = .ok (vR rz) w := by
  obtain ⟨i, hi, e⟩ := Option.map_eq_some_iff.1 Try.info48z
  simp only [Prod.mk.injEq] at e
  simp [zeroValue, typeInfo, hi, e.1, vR]
theorem zero3 (w : World) : (zeroValue 3).run Try.prog w = .ok (.int .i64 0) w := by
  obtain ⟨i0, hi, hz0, hz1, hz2⟩ := info_parts info3
  simp [zeroValue, typeInfo, hi, hz0]
theorem info71 : (Try.prog.info? 71).map (fun i => (i.zero, i.size)) = some (some (vB (0, 0)), 2) := by kernel_rfl
theorem zero71 (w : World) : (zeroValue 71).run Try.prog w = .ok (vB (0, 0)) w := by
  obtain ⟨i, hi, e⟩ := Option.map_eq_some_iff.1 info71
  simp only [Prod.mk.injEq] at e
  simp [zeroValue, typeInfo, hi, e.1]
end Go.Proofs.Ytnnljdnaipjoiaa
