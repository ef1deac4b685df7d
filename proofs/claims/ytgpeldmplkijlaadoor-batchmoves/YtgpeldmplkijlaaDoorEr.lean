/- The document's own Encode. -/
import Derived.Test.YtgpeldmplkijlaaDoorEn
import Derived.Test.YtgpeldmplkijlaaDoorRvr
import Derived.Lib.AppendStr
namespace Go.Proofs.YtgpeldmplkijlaaDoor
set_option linter.unusedSimpArgs false
set_option linter.unusedVariables false
open Go.RowKit
theorem sb_cv (s : ByteArray) : Lib.strCells s = cv (sb s) := by
  unfold Lib.strCells cv sb
  simp
theorem wp_append_text {w : World} {o : Oper} {a : Act} {K : Act → World → Prop} {Q : Exit → Act → World → Prop} (s x : Operand)
    (ho : o.op = .call { callee := .builtin .append, args := #[s, x], argTypes := #[27, 9] }) (B : Nat) (w0 : World)
    (v : Value) (n : Nat) (xs : List Value) (hs : a.eval s = v) (hown : w.ownsRow B 5 1 v n xs) (hB : Below B w0 w) (hBs : B ≤ w.heap.size)
    (t : ByteArray) (hx : a.eval x = .string t) (h63 : n + t.size ≤ 1000000)
    (h : ∀ v' w', w'.ownsRow B 5 1 v' (n + t.size) (xs ++ cv (sb t)) → Below B w0 w' → K (a.put o.dst v') w') : o.wp Tryd.prog a w K Q := by
  obtain ⟨i0, hi, hz0, hz1, hz2⟩ := info_parts Tryd.info5
  obtain ⟨v', w', hr, h2, h3, h4⟩ := Lib.run_append_own_string (P := Tryd.prog) w B 27 9 o.type 5 i0 Tryd.underlying27 Tryd.underlying9 hi hz0 hz1 hz2 v n xs hown t (by unfold maxLen; omega) (by omega) hBs
  rw [sb_cv] at h2
  unfold Oper.wp execOp
  simp only [ho, resolve, invoke, builtin, Sem.run_bind, Sem.run_pure, Result.andThen_ok, List.map_toArray, List.map_cons, List.map_nil, hs, hx, hr]
  exact h v' w' h2 (hB.grown h3 hBs (fun k hk => (hown.lt k hk).1))
theorem own_on {B : Nat} {w w' : World} {v : Value} {n : Nat} {xs : List Value} (h : w.ownsRow B 5 1 v n xs) (hb : Below w.heap.size w w') : w'.ownsRow B 5 1 v n xs := by
  refine World.ownsRow.kept (row := none) h ⟨hb.os, hb.tape, hb.output, hb.size, fun k hk _ => hb.block k hk⟩ ?_
  cases v.ownBlock with
  | none => exact .inl rfl
  | some g => exact .inr (by simp)
theorem owns_drew {B : Nat} {w : World} {v : Value} {n : Nat} {xs : List Value} (h : w.ownsRow B 5 1 v n xs) : w.drew.ownsRow B 5 1 v n xs := h
theorem lit_own (w : World) (h : Nat) {w2 : World} (hb : Below (w.alloc (.cells #[.int .u8 (h : Int)] 5)).heap.size (w.alloc (.cells #[.int .u8 (h : Int)] 5)) w2) : w2.ownsRow w.heap.size 5 1 (.slice (some ⟨w.heap.size, 0, none⟩) 1 1) 1 (cv [h]) := by
  refine own_on ?_ hb
  exact ⟨rfl, .inr ⟨w.heap.size, 1, #[.int .u8 (h : Int)], rfl, Nat.le_refl _, heap_alloc_new w _, Nat.le_refl _, by decide, rfl, rfl⟩⟩
theorem owns_list {B : Nat} {w : World} {v : Value} {n : Nat} {xs : List Value} {l : List Nat} (h : w.ownsRow B 5 1 v n xs) (e : xs = cv l) : w.ownsRow B 5 1 v l.length (cv l) := by
  have h1 := h.1
  subst e
  rw [cv_length, Nat.mul_one] at h1
  rw [h1]
  exact h
set_option maxRecDepth 100000 in
set_option maxHeartbeats 1000000 in
theorem renc_ff (k v : ByteArray) (t : Int) (o : Nat) (first : Int) (u : World) (k1 : k.size ≤ 2000) (v1 : v.size ≤ 2000) (f0 : 0 ≤ first) (f1 : first ≤ 1125899906842624) (zn : Nat) (l1 l2 l3 l4 : List Nat)
    (HC : Hid (∀ w', Calls Tryd.prog 36 #[.agg #[.bool false, .string k, .bool false, .string v, .int .i64 t, .int .i64 (o : Int)]] w' fun e w2 => e = .returned (.int .i64 0) ∧ Below w'.heap.size w' w2))
    (HV1 : Hid (Makes 68 #[.int .u64 (o : Int)] l1)) (HZ : Hid (∀ w', Calls Tryd.prog 69 #[.int .i64 (t - first)] w' fun e w2 => e = .returned (.int .u64 (zn : Int)) ∧ w2 = w'))
    (HV2 : Hid (Makes 68 #[.int .u64 (zn : Int)] l2)) (HV3 : Hid (Makes 68 #[.int .u64 (k.size : Int)] l3)) (HV4 : Hid (Makes 68 #[.int .u64 (v.size : Int)] l4))
    (q1 : l1.length ≤ 10) (q2 : l2.length ≤ 10) (q3 : l3.length ≤ 10) (q4 : l4.length ≤ 10)
    (hwo : IntKind.u64.wrap (o : Int) = (o : Int)) (hwt : IntKind.i64.wrap (t - first) = t - first) (hwk : IntKind.u64.wrap (k.size : Int) = (k.size : Int)) (hwv : IntKind.u64.wrap (v.size : Int) = (v.size : Int))
    (L : List Nat) (HL : Hid (L = 0 :: (l1 ++ (l2 ++ ([] ++ []))))) :
    Calls Tryd.prog 50 #[.agg #[.bool false, .string k, .bool false, .string v, .int .i64 t, .int .i64 (o : Int)], .int .i64 first] u fun e w' => ∃ x, e = .returned (.tuple #[x, .int .i64 0]) ∧ w'.ownsRow u.heap.size 5 1 x L.length (cv L) ∧ Below u.heap.size u w' := by
  have b1 : bits .or .u8 0 2 = 2 := by decide
  have b2 : bits .or .u8 1 2 = 3 := by decide
  have tok1 : True := trivial
  have tok2 : True := trivial
  go_enter Tryd.func50, Tryd.ntmps50
  go_wp2_with (first
    | (go_at_call 36; refine (HC.out _).mono ?_; rintro e w1 ⟨rfl, hb1⟩; obtain ⟨⟨z0, z1, z2, z3, z4, z5⟩, _⟩ := SE.below (SE.new u ⟨false, k, false, v, t, o⟩) hb1; simp only at z0 z1 z2 z3 z4 z5; have hz1 := World.block_lt_of_cell? _ _ z0; simp only at hz1)
    | (go_at_call 68; have _t := tok1; refine (HV1.out _).mono ?_; clear tok1 _t z0 z1 z2 z3 z4 z5 hz1; rintro e w2 ⟨a1, c1, rfl, R1, n1, hb2⟩; have ow2 := owns_le (lit_own w1 0 hb2) hb1.size; have hb12 := (hb1.alloc hb1.size (.cells #[.int .u8 0] 5)).trans (hb2.mono (Nat.le_trans hb1.size (below_box _).size)); clear hb1 hb2)
    | (at_builtin; have _t := tok2; refine wpList_append_row (by rfl) _ _ rfl _ _ _ _ _ rfl ow2 hb12 hb12.size a1 c1 l1 rfl R1 n1 (by omega) ?_; clear tok2 _t; intro v3 w3 own3 hb3; obtain ⟨⟨z0, z1, z2, z3, z4, z5⟩, _⟩ := SE.below (SE.new u ⟨false, k, false, v, t, o⟩) hb3; simp only at z0 z1 z2 z3 z4 z5; have hz1 := World.block_lt_of_cell? _ _ z0; simp only at hz1; clear ow2 R1)
    | (go_at_call 69; refine (HZ.out _).mono ?_; rintro e w4 ⟨rfl, hw⟩; subst w4)
    | (go_at_call 68; refine (HV2.out _).mono ?_; clear z0 z1 z2 z3 z4 z5 hz1; rintro e w5 ⟨a2, c2, rfl, R2, n2, hb5⟩; have ow5 := own_on own3 hb5; have hb35 := hb3.trans (hb5.mono hb3.size))
    | (at_builtin; refine wpList_append_row (by rfl) _ _ rfl _ _ _ _ _ rfl ow5 hb35 hb35.size a2 c2 l2 rfl R2 n2 (by omega) ?_; intro v6 w6 own6 hb6; obtain ⟨⟨z0, z1, z2, z3, z4, z5⟩, _⟩ := SE.below (SE.new u ⟨false, k, false, v, t, o⟩) hb6; simp only at z0 z1 z2 z3 z4 z5; have hz1 := World.block_lt_of_cell? _ _ z0; simp only at hz1; clear ow5 R2))
  go_ret2
  have hbb : Below u.heap.size u _ := (below_box (.cells #[.bool false, .string k, .bool false, .string v, .int .i64 t, .int .i64 (o : Int)] 58)).trans (hb6.mono (by simp))
  refine ⟨_, rfl, ?_, hbb⟩
  have := owns_le (B' := u.heap.size) own6 (by simp)
  exact owns_list this (by rw [HL.out]; simp [cv])
set_option maxRecDepth 100000 in
set_option maxHeartbeats 1000000 in
theorem renc_ft (k v : ByteArray) (t : Int) (o : Nat) (first : Int) (u : World) (k1 : k.size ≤ 2000) (v1 : v.size ≤ 2000) (f0 : 0 ≤ first) (f1 : first ≤ 1125899906842624) (zn : Nat) (l1 l2 l3 l4 : List Nat)
    (HC : Hid (∀ w', Calls Tryd.prog 36 #[.agg #[.bool false, .string k, .bool true, .string v, .int .i64 t, .int .i64 (o : Int)]] w' fun e w2 => e = .returned (.int .i64 0) ∧ Below w'.heap.size w' w2))
    (HV1 : Hid (Makes 68 #[.int .u64 (o : Int)] l1)) (HZ : Hid (∀ w', Calls Tryd.prog 69 #[.int .i64 (t - first)] w' fun e w2 => e = .returned (.int .u64 (zn : Int)) ∧ w2 = w'))
    (HV2 : Hid (Makes 68 #[.int .u64 (zn : Int)] l2)) (HV3 : Hid (Makes 68 #[.int .u64 (k.size : Int)] l3)) (HV4 : Hid (Makes 68 #[.int .u64 (v.size : Int)] l4))
    (q1 : l1.length ≤ 10) (q2 : l2.length ≤ 10) (q3 : l3.length ≤ 10) (q4 : l4.length ≤ 10)
    (hwo : IntKind.u64.wrap (o : Int) = (o : Int)) (hwt : IntKind.i64.wrap (t - first) = t - first) (hwk : IntKind.u64.wrap (k.size : Int) = (k.size : Int)) (hwv : IntKind.u64.wrap (v.size : Int) = (v.size : Int))
    (L : List Nat) (HL : Hid (L = 2 :: (l1 ++ (l2 ++ ([] ++ (l4 ++ sb v)))))) :
    Calls Tryd.prog 50 #[.agg #[.bool false, .string k, .bool true, .string v, .int .i64 t, .int .i64 (o : Int)], .int .i64 first] u fun e w' => ∃ x, e = .returned (.tuple #[x, .int .i64 0]) ∧ w'.ownsRow u.heap.size 5 1 x L.length (cv L) ∧ Below u.heap.size u w' := by
  have b1 : bits .or .u8 0 2 = 2 := by decide
  have b2 : bits .or .u8 1 2 = 3 := by decide
  have tok1 : True := trivial
  have tok2 : True := trivial
  go_enter Tryd.func50, Tryd.ntmps50
  go_wp2_with (first
    | (go_at_call 36; refine (HC.out _).mono ?_; rintro e w1 ⟨rfl, hb1⟩; obtain ⟨⟨z0, z1, z2, z3, z4, z5⟩, _⟩ := SE.below (SE.new u ⟨false, k, true, v, t, o⟩) hb1; simp only at z0 z1 z2 z3 z4 z5; have hz1 := World.block_lt_of_cell? _ _ z0; simp only at hz1)
    | (go_at_call 68; have _t := tok1; refine (HV1.out _).mono ?_; clear tok1 _t z0 z1 z2 z3 z4 z5 hz1; rintro e w2 ⟨a1, c1, rfl, R1, n1, hb2⟩; have ow2 := owns_le (lit_own w1 2 hb2) hb1.size; have hb12 := (hb1.alloc hb1.size (.cells #[.int .u8 2] 5)).trans (hb2.mono (Nat.le_trans hb1.size (below_box _).size)); clear hb1 hb2)
    | (at_builtin; have _t := tok2; refine wpList_append_row (by rfl) _ _ rfl _ _ _ _ _ rfl ow2 hb12 hb12.size a1 c1 l1 rfl R1 n1 (by omega) ?_; clear tok2 _t; intro v3 w3 own3 hb3; obtain ⟨⟨z0, z1, z2, z3, z4, z5⟩, _⟩ := SE.below (SE.new u ⟨false, k, true, v, t, o⟩) hb3; simp only at z0 z1 z2 z3 z4 z5; have hz1 := World.block_lt_of_cell? _ _ z0; simp only at hz1; clear ow2 R1)
    | (go_at_call 69; refine (HZ.out _).mono ?_; rintro e w4 ⟨rfl, hw⟩; subst w4)
    | (go_at_call 68; refine (HV2.out _).mono ?_; clear z0 z1 z2 z3 z4 z5 hz1; rintro e w5 ⟨a2, c2, rfl, R2, n2, hb5⟩; have ow5 := own_on own3 hb5; have hb35 := hb3.trans (hb5.mono hb3.size))
    | (at_builtin; refine wpList_append_row (by rfl) _ _ rfl _ _ _ _ _ rfl ow5 hb35 hb35.size a2 c2 l2 rfl R2 n2 (by omega) ?_; intro v6 w6 own6 hb6; obtain ⟨⟨z0, z1, z2, z3, z4, z5⟩, _⟩ := SE.below (SE.new u ⟨false, k, true, v, t, o⟩) hb6; simp only at z0 z1 z2 z3 z4 z5; have hz1 := World.block_lt_of_cell? _ _ z0; simp only at hz1; clear ow5 R2))
  clear z0 z1 z2 z3 z4 z5 hz1
  refine wp_region_lat (fun y => Below (u.alloc (.cells #[.bool false, .string k, .bool true, .string v, .int .i64 t, .int .i64 (o : Int)] 58)).heap.size (u.alloc (.cells #[.bool false, .string k, .bool true, .string v, .int .i64 t, .int .i64 (o : Int)] 58)) y) 10 (by kernel_rfl) (hb6.drew) (fun hHeld => ?_)
  refine lat_take 0 (v := ?_) rfl (by kernel_rfl) (by kernel_rfl) (by kernel_rfl) (by kernel_rfl) (fun _ _ _ h => h) (by rfl) ?_ (by assumption) ?_
  rotate_left
  · (intro w hSw; obtain ⟨⟨z0, z1, z2, z3, z4, z5⟩, _⟩ := SE.below (SE.new u ⟨false, k, true, v, t, o⟩) hSw; simp only at z0 z1 z2 z3 z4 z5; go_simp <;> with_reducible rfl)
  try simp only [Act.put, List.setIfInBounds_toArray, List.set_cons_zero, List.set_cons_succ]
  refine lat_take 1 (v := ?_) rfl (by kernel_rfl) (by kernel_rfl) (by kernel_rfl) (by kernel_rfl) (fun _ _ _ h => h) (by rfl) ?_ (by assumption) ?_
  rotate_left
  · (intro w hSw; obtain ⟨⟨z0, z1, z2, z3, z4, z5⟩, _⟩ := SE.below (SE.new u ⟨false, k, true, v, t, o⟩) hSw; simp only at z0 z1 z2 z3 z4 z5; go_simp <;> with_reducible rfl)
  try simp only [Act.put, List.setIfInBounds_toArray, List.set_cons_zero, List.set_cons_succ]
  refine lat_take 2 (v := ?_) rfl (by kernel_rfl) (by kernel_rfl) (by kernel_rfl) (by kernel_rfl) (fun _ _ _ h => h) (by rfl) ?_ (by assumption) ?_
  rotate_left
  · (intro w hSw; obtain ⟨⟨z0, z1, z2, z3, z4, z5⟩, _⟩ := SE.below (SE.new u ⟨false, k, true, v, t, o⟩) hSw; simp only at z0 z1 z2 z3 z4 z5; go_simp <;> with_reducible rfl)
  try simp only [Act.put, List.setIfInBounds_toArray, List.set_cons_zero, List.set_cons_succ]
  refine lat_take 3 (v := ?_) rfl (by kernel_rfl) (by kernel_rfl) (by kernel_rfl) (by kernel_rfl) (fun _ _ _ h => h) (by rfl) ?_ (by assumption) ?_
  rotate_left
  · (intro w hSw; obtain ⟨⟨z0, z1, z2, z3, z4, z5⟩, _⟩ := SE.below (SE.new u ⟨false, k, true, v, t, o⟩) hSw; simp only at z0 z1 z2 z3 z4 z5; go_simp <;> with_reducible rfl)
  try simp only [Act.put, List.setIfInBounds_toArray, List.set_cons_zero, List.set_cons_succ]
  refine lat_take 4 (v := ?_) rfl (by kernel_rfl) (by kernel_rfl) (by kernel_rfl) (by kernel_rfl) (fun _ _ _ h => h) (by rfl) ?_ (by assumption) ?_
  rotate_left
  · (intro w hSw; obtain ⟨⟨z0, z1, z2, z3, z4, z5⟩, _⟩ := SE.below (SE.new u ⟨false, k, true, v, t, o⟩) hSw; simp only at z0 z1 z2 z3 z4 z5; go_simp <;> with_reducible rfl)
  try simp only [Act.put, List.setIfInBounds_toArray, List.set_cons_zero, List.set_cons_succ]
  refine lat_take 7 (v := ?_) rfl (by kernel_rfl) (by kernel_rfl) (by kernel_rfl) (by kernel_rfl) (fun _ _ _ h => h) (by rfl) ?_ (by assumption) ?_
  rotate_left
  · (intro w hSw; obtain ⟨⟨z0, z1, z2, z3, z4, z5⟩, _⟩ := SE.below (SE.new u ⟨false, k, true, v, t, o⟩) hSw; simp only at z0 z1 z2 z3 z4 z5; go_simp <;> with_reducible rfl)
  try simp only [Act.put, List.setIfInBounds_toArray, List.set_cons_zero, List.set_cons_succ]
  refine lat_take 8 (v := ?_) rfl (by kernel_rfl) (by kernel_rfl) (by kernel_rfl) (by kernel_rfl) (fun _ _ _ h => h) (by rfl) ?_ (by assumption) ?_
  rotate_left
  · (intro w hSw; obtain ⟨⟨z0, z1, z2, z3, z4, z5⟩, _⟩ := SE.below (SE.new u ⟨false, k, true, v, t, o⟩) hSw; simp only at z0 z1 z2 z3 z4 z5; go_simp <;> with_reducible rfl)
  try simp only [Act.put, List.setIfInBounds_toArray, List.set_cons_zero, List.set_cons_succ]
  refine lat_one 5 rfl (by kernel_rfl) (by decide) (by rfl) (fun K hK => ?_)
  go_simp
  refine Calls.mono (HV4.out _) ?_
  rintro e xV ⟨aV, cV, rfl, RV, nV, hxV⟩
  try dsimp only
  have hyV := hHeld.trans (hxV.mono hHeld.size)
  have owV := own_on (owns_drew own6) hxV
  refine hK.out _ _ hyV (fun hH2 => ?_)
  clear hK hHeld
  try simp only [Act.put, List.setIfInBounds_toArray, List.set_cons_zero, List.set_cons_succ]
  refine lat_one 6 rfl (by kernel_rfl) (by decide) (by rfl) (fun K hK => ?_)
  refine wp_append_row _ _ rfl _ _ _ _ _ rfl owV hH2 hH2.size aV cV l4 rfl RV nV (by omega) ?_
  intro vV yV oxV hzV
  refine hK.out _ _ hzV (fun hH3 => ?_)
  clear hK hH2
  try simp only [Act.put, List.setIfInBounds_toArray, List.set_cons_zero, List.set_cons_succ]
  refine lat_one 9 rfl (by kernel_rfl) (by decide) (by rfl) (fun K hK => ?_)
  refine wp_append_text _ _ rfl _ _ _ _ _ rfl oxV hH3 hH3.size v rfl (by omega) ?_
  intro vvV yyV ownV hbV
  refine hK.out _ _ hbV (fun hH4 => ?_)
  clear hK hH3 hH4 oxV owV
  try simp only [Act.put, List.setIfInBounds_toArray, List.set_cons_zero, List.set_cons_succ]
  refine lat_last 10 rfl (by kernel_rfl) (by decide) (by kernel_rfl) (by rfl) (fun K hK => ?_)
  go_simp
  refine hK.out _ _ ?_
  clear hK
  try simp only [Act.put, List.setIfInBounds_toArray, List.set_cons_zero, List.set_cons_succ]
  go_wp2_with fail
  go_ret2
  have hbb : Below u.heap.size u _ := (below_box (.cells #[.bool false, .string k, .bool true, .string v, .int .i64 t, .int .i64 (o : Int)] 58)).trans (hbV.mono (by simp))
  refine ⟨_, rfl, ?_, hbb⟩
  have := owns_le (B' := u.heap.size) ownV (by simp)
  exact owns_list this (by rw [HL.out]; simp [cv])
set_option maxRecDepth 100000 in
set_option maxHeartbeats 1000000 in
theorem renc_tf (k v : ByteArray) (t : Int) (o : Nat) (first : Int) (u : World) (k1 : k.size ≤ 2000) (v1 : v.size ≤ 2000) (f0 : 0 ≤ first) (f1 : first ≤ 1125899906842624) (zn : Nat) (l1 l2 l3 l4 : List Nat)
    (HC : Hid (∀ w', Calls Tryd.prog 36 #[.agg #[.bool true, .string k, .bool false, .string v, .int .i64 t, .int .i64 (o : Int)]] w' fun e w2 => e = .returned (.int .i64 0) ∧ Below w'.heap.size w' w2))
    (HV1 : Hid (Makes 68 #[.int .u64 (o : Int)] l1)) (HZ : Hid (∀ w', Calls Tryd.prog 69 #[.int .i64 (t - first)] w' fun e w2 => e = .returned (.int .u64 (zn : Int)) ∧ w2 = w'))
    (HV2 : Hid (Makes 68 #[.int .u64 (zn : Int)] l2)) (HV3 : Hid (Makes 68 #[.int .u64 (k.size : Int)] l3)) (HV4 : Hid (Makes 68 #[.int .u64 (v.size : Int)] l4))
    (q1 : l1.length ≤ 10) (q2 : l2.length ≤ 10) (q3 : l3.length ≤ 10) (q4 : l4.length ≤ 10)
    (hwo : IntKind.u64.wrap (o : Int) = (o : Int)) (hwt : IntKind.i64.wrap (t - first) = t - first) (hwk : IntKind.u64.wrap (k.size : Int) = (k.size : Int)) (hwv : IntKind.u64.wrap (v.size : Int) = (v.size : Int))
    (L : List Nat) (HL : Hid (L = 1 :: (l1 ++ (l2 ++ (l3 ++ sb k ++ []))))) :
    Calls Tryd.prog 50 #[.agg #[.bool true, .string k, .bool false, .string v, .int .i64 t, .int .i64 (o : Int)], .int .i64 first] u fun e w' => ∃ x, e = .returned (.tuple #[x, .int .i64 0]) ∧ w'.ownsRow u.heap.size 5 1 x L.length (cv L) ∧ Below u.heap.size u w' := by
  have b1 : bits .or .u8 0 2 = 2 := by decide
  have b2 : bits .or .u8 1 2 = 3 := by decide
  have tok1 : True := trivial
  have tok2 : True := trivial
  go_enter Tryd.func50, Tryd.ntmps50
  go_wp2_with (first
    | (go_at_call 36; refine (HC.out _).mono ?_; rintro e w1 ⟨rfl, hb1⟩; obtain ⟨⟨z0, z1, z2, z3, z4, z5⟩, _⟩ := SE.below (SE.new u ⟨true, k, false, v, t, o⟩) hb1; simp only at z0 z1 z2 z3 z4 z5; have hz1 := World.block_lt_of_cell? _ _ z0; simp only at hz1)
    | (go_at_call 68; have _t := tok1; refine (HV1.out _).mono ?_; clear tok1 _t z0 z1 z2 z3 z4 z5 hz1; rintro e w2 ⟨a1, c1, rfl, R1, n1, hb2⟩; have ow2 := owns_le (lit_own w1 1 hb2) hb1.size; have hb12 := (hb1.alloc hb1.size (.cells #[.int .u8 1] 5)).trans (hb2.mono (Nat.le_trans hb1.size (below_box _).size)); clear hb1 hb2)
    | (at_builtin; have _t := tok2; refine wpList_append_row (by rfl) _ _ rfl _ _ _ _ _ rfl ow2 hb12 hb12.size a1 c1 l1 rfl R1 n1 (by omega) ?_; clear tok2 _t; intro v3 w3 own3 hb3; obtain ⟨⟨z0, z1, z2, z3, z4, z5⟩, _⟩ := SE.below (SE.new u ⟨true, k, false, v, t, o⟩) hb3; simp only at z0 z1 z2 z3 z4 z5; have hz1 := World.block_lt_of_cell? _ _ z0; simp only at hz1; clear ow2 R1)
    | (go_at_call 69; refine (HZ.out _).mono ?_; rintro e w4 ⟨rfl, hw⟩; subst w4)
    | (go_at_call 68; refine (HV2.out _).mono ?_; clear z0 z1 z2 z3 z4 z5 hz1; rintro e w5 ⟨a2, c2, rfl, R2, n2, hb5⟩; have ow5 := own_on own3 hb5; have hb35 := hb3.trans (hb5.mono hb3.size))
    | (at_builtin; refine wpList_append_row (by rfl) _ _ rfl _ _ _ _ _ rfl ow5 hb35 hb35.size a2 c2 l2 rfl R2 n2 (by omega) ?_; intro v6 w6 own6 hb6; obtain ⟨⟨z0, z1, z2, z3, z4, z5⟩, _⟩ := SE.below (SE.new u ⟨true, k, false, v, t, o⟩) hb6; simp only at z0 z1 z2 z3 z4 z5; have hz1 := World.block_lt_of_cell? _ _ z0; simp only at hz1; clear ow5 R2))
  clear z0 z1 z2 z3 z4 z5 hz1
  refine wp_region_lat (fun y => Below (u.alloc (.cells #[.bool true, .string k, .bool false, .string v, .int .i64 t, .int .i64 (o : Int)] 58)).heap.size (u.alloc (.cells #[.bool true, .string k, .bool false, .string v, .int .i64 t, .int .i64 (o : Int)] 58)) y) 10 (by kernel_rfl) (hb6.drew) (fun hHeld => ?_)
  refine lat_take 0 (v := ?_) rfl (by kernel_rfl) (by kernel_rfl) (by kernel_rfl) (by kernel_rfl) (fun _ _ _ h => h) (by rfl) ?_ (by assumption) ?_
  rotate_left
  · (intro w hSw; obtain ⟨⟨z0, z1, z2, z3, z4, z5⟩, _⟩ := SE.below (SE.new u ⟨true, k, false, v, t, o⟩) hSw; simp only at z0 z1 z2 z3 z4 z5; go_simp <;> with_reducible rfl)
  try simp only [Act.put, List.setIfInBounds_toArray, List.set_cons_zero, List.set_cons_succ]
  refine lat_take 1 (v := ?_) rfl (by kernel_rfl) (by kernel_rfl) (by kernel_rfl) (by kernel_rfl) (fun _ _ _ h => h) (by rfl) ?_ (by assumption) ?_
  rotate_left
  · (intro w hSw; obtain ⟨⟨z0, z1, z2, z3, z4, z5⟩, _⟩ := SE.below (SE.new u ⟨true, k, false, v, t, o⟩) hSw; simp only at z0 z1 z2 z3 z4 z5; go_simp <;> with_reducible rfl)
  try simp only [Act.put, List.setIfInBounds_toArray, List.set_cons_zero, List.set_cons_succ]
  refine lat_take 2 (v := ?_) rfl (by kernel_rfl) (by kernel_rfl) (by kernel_rfl) (by kernel_rfl) (fun _ _ _ h => h) (by rfl) ?_ (by assumption) ?_
  rotate_left
  · (intro w hSw; obtain ⟨⟨z0, z1, z2, z3, z4, z5⟩, _⟩ := SE.below (SE.new u ⟨true, k, false, v, t, o⟩) hSw; simp only at z0 z1 z2 z3 z4 z5; go_simp <;> with_reducible rfl)
  try simp only [Act.put, List.setIfInBounds_toArray, List.set_cons_zero, List.set_cons_succ]
  refine lat_take 3 (v := ?_) rfl (by kernel_rfl) (by kernel_rfl) (by kernel_rfl) (by kernel_rfl) (fun _ _ _ h => h) (by rfl) ?_ (by assumption) ?_
  rotate_left
  · (intro w hSw; obtain ⟨⟨z0, z1, z2, z3, z4, z5⟩, _⟩ := SE.below (SE.new u ⟨true, k, false, v, t, o⟩) hSw; simp only at z0 z1 z2 z3 z4 z5; go_simp <;> with_reducible rfl)
  try simp only [Act.put, List.setIfInBounds_toArray, List.set_cons_zero, List.set_cons_succ]
  refine lat_take 4 (v := ?_) rfl (by kernel_rfl) (by kernel_rfl) (by kernel_rfl) (by kernel_rfl) (fun _ _ _ h => h) (by rfl) ?_ (by assumption) ?_
  rotate_left
  · (intro w hSw; obtain ⟨⟨z0, z1, z2, z3, z4, z5⟩, _⟩ := SE.below (SE.new u ⟨true, k, false, v, t, o⟩) hSw; simp only at z0 z1 z2 z3 z4 z5; go_simp <;> with_reducible rfl)
  try simp only [Act.put, List.setIfInBounds_toArray, List.set_cons_zero, List.set_cons_succ]
  refine lat_take 7 (v := ?_) rfl (by kernel_rfl) (by kernel_rfl) (by kernel_rfl) (by kernel_rfl) (fun _ _ _ h => h) (by rfl) ?_ (by assumption) ?_
  rotate_left
  · (intro w hSw; obtain ⟨⟨z0, z1, z2, z3, z4, z5⟩, _⟩ := SE.below (SE.new u ⟨true, k, false, v, t, o⟩) hSw; simp only at z0 z1 z2 z3 z4 z5; go_simp <;> with_reducible rfl)
  try simp only [Act.put, List.setIfInBounds_toArray, List.set_cons_zero, List.set_cons_succ]
  refine lat_take 8 (v := ?_) rfl (by kernel_rfl) (by kernel_rfl) (by kernel_rfl) (by kernel_rfl) (fun _ _ _ h => h) (by rfl) ?_ (by assumption) ?_
  rotate_left
  · (intro w hSw; obtain ⟨⟨z0, z1, z2, z3, z4, z5⟩, _⟩ := SE.below (SE.new u ⟨true, k, false, v, t, o⟩) hSw; simp only at z0 z1 z2 z3 z4 z5; go_simp <;> with_reducible rfl)
  try simp only [Act.put, List.setIfInBounds_toArray, List.set_cons_zero, List.set_cons_succ]
  refine lat_one 5 rfl (by kernel_rfl) (by decide) (by rfl) (fun K hK => ?_)
  go_simp
  refine Calls.mono (HV3.out _) ?_
  rintro e xK ⟨aK, cK, rfl, RK, nK, hxK⟩
  try dsimp only
  have hyK := hHeld.trans (hxK.mono hHeld.size)
  have owK := own_on (owns_drew own6) hxK
  refine hK.out _ _ hyK (fun hH2 => ?_)
  clear hK hHeld
  try simp only [Act.put, List.setIfInBounds_toArray, List.set_cons_zero, List.set_cons_succ]
  refine lat_one 6 rfl (by kernel_rfl) (by decide) (by rfl) (fun K hK => ?_)
  refine wp_append_row _ _ rfl _ _ _ _ _ rfl owK hH2 hH2.size aK cK l3 rfl RK nK (by omega) ?_
  intro vK yK oxK hzK
  refine hK.out _ _ hzK (fun hH3 => ?_)
  clear hK hH2
  try simp only [Act.put, List.setIfInBounds_toArray, List.set_cons_zero, List.set_cons_succ]
  refine lat_one 9 rfl (by kernel_rfl) (by decide) (by rfl) (fun K hK => ?_)
  refine wp_append_text _ _ rfl _ _ _ _ _ rfl oxK hH3 hH3.size k rfl (by omega) ?_
  intro vvK yyK ownK hbK
  refine hK.out _ _ hbK (fun hH4 => ?_)
  clear hK hH3 hH4 oxK owK
  try simp only [Act.put, List.setIfInBounds_toArray, List.set_cons_zero, List.set_cons_succ]
  refine lat_last 10 rfl (by kernel_rfl) (by decide) (by kernel_rfl) (by rfl) (fun K hK => ?_)
  go_simp
  refine hK.out _ _ ?_
  clear hK
  try simp only [Act.put, List.setIfInBounds_toArray, List.set_cons_zero, List.set_cons_succ]
  obtain ⟨⟨z0, z1, z2, z3, z4, z5⟩, _⟩ := SE.below (SE.new u ⟨true, k, false, v, t, o⟩) hbK
  simp only at z0 z1 z2 z3 z4 z5
  have hz1 := World.block_lt_of_cell? _ _ z0
  simp only at hz1
  go_wp2_with fail
  go_ret2
  have hbb : Below u.heap.size u _ := (below_box (.cells #[.bool true, .string k, .bool false, .string v, .int .i64 t, .int .i64 (o : Int)] 58)).trans (hbK.mono (by simp))
  refine ⟨_, rfl, ?_, hbb⟩
  have := owns_le (B' := u.heap.size) ownK (by simp)
  exact owns_list this (by rw [HL.out]; simp [cv])
set_option maxRecDepth 100000 in
set_option maxHeartbeats 1000000 in
theorem renc_tt (k v : ByteArray) (t : Int) (o : Nat) (first : Int) (u : World) (k1 : k.size ≤ 2000) (v1 : v.size ≤ 2000) (f0 : 0 ≤ first) (f1 : first ≤ 1125899906842624) (zn : Nat) (l1 l2 l3 l4 : List Nat)
    (HC : Hid (∀ w', Calls Tryd.prog 36 #[.agg #[.bool true, .string k, .bool true, .string v, .int .i64 t, .int .i64 (o : Int)]] w' fun e w2 => e = .returned (.int .i64 0) ∧ Below w'.heap.size w' w2))
    (HV1 : Hid (Makes 68 #[.int .u64 (o : Int)] l1)) (HZ : Hid (∀ w', Calls Tryd.prog 69 #[.int .i64 (t - first)] w' fun e w2 => e = .returned (.int .u64 (zn : Int)) ∧ w2 = w'))
    (HV2 : Hid (Makes 68 #[.int .u64 (zn : Int)] l2)) (HV3 : Hid (Makes 68 #[.int .u64 (k.size : Int)] l3)) (HV4 : Hid (Makes 68 #[.int .u64 (v.size : Int)] l4))
    (q1 : l1.length ≤ 10) (q2 : l2.length ≤ 10) (q3 : l3.length ≤ 10) (q4 : l4.length ≤ 10)
    (hwo : IntKind.u64.wrap (o : Int) = (o : Int)) (hwt : IntKind.i64.wrap (t - first) = t - first) (hwk : IntKind.u64.wrap (k.size : Int) = (k.size : Int)) (hwv : IntKind.u64.wrap (v.size : Int) = (v.size : Int))
    (L : List Nat) (HL : Hid (L = 3 :: (l1 ++ (l2 ++ (l3 ++ sb k ++ (l4 ++ sb v)))))) :
    Calls Tryd.prog 50 #[.agg #[.bool true, .string k, .bool true, .string v, .int .i64 t, .int .i64 (o : Int)], .int .i64 first] u fun e w' => ∃ x, e = .returned (.tuple #[x, .int .i64 0]) ∧ w'.ownsRow u.heap.size 5 1 x L.length (cv L) ∧ Below u.heap.size u w' := by
  have b1 : bits .or .u8 0 2 = 2 := by decide
  have b2 : bits .or .u8 1 2 = 3 := by decide
  have tok1 : True := trivial
  have tok2 : True := trivial
  go_enter Tryd.func50, Tryd.ntmps50
  go_wp2_with (first
    | (go_at_call 36; refine (HC.out _).mono ?_; rintro e w1 ⟨rfl, hb1⟩; obtain ⟨⟨z0, z1, z2, z3, z4, z5⟩, _⟩ := SE.below (SE.new u ⟨true, k, true, v, t, o⟩) hb1; simp only at z0 z1 z2 z3 z4 z5; have hz1 := World.block_lt_of_cell? _ _ z0; simp only at hz1)
    | (go_at_call 68; have _t := tok1; refine (HV1.out _).mono ?_; clear tok1 _t z0 z1 z2 z3 z4 z5 hz1; rintro e w2 ⟨a1, c1, rfl, R1, n1, hb2⟩; have ow2 := owns_le (lit_own w1 3 hb2) hb1.size; have hb12 := (hb1.alloc hb1.size (.cells #[.int .u8 3] 5)).trans (hb2.mono (Nat.le_trans hb1.size (below_box _).size)); clear hb1 hb2)
    | (at_builtin; have _t := tok2; refine wpList_append_row (by rfl) _ _ rfl _ _ _ _ _ rfl ow2 hb12 hb12.size a1 c1 l1 rfl R1 n1 (by omega) ?_; clear tok2 _t; intro v3 w3 own3 hb3; obtain ⟨⟨z0, z1, z2, z3, z4, z5⟩, _⟩ := SE.below (SE.new u ⟨true, k, true, v, t, o⟩) hb3; simp only at z0 z1 z2 z3 z4 z5; have hz1 := World.block_lt_of_cell? _ _ z0; simp only at hz1; clear ow2 R1)
    | (go_at_call 69; refine (HZ.out _).mono ?_; rintro e w4 ⟨rfl, hw⟩; subst w4)
    | (go_at_call 68; refine (HV2.out _).mono ?_; clear z0 z1 z2 z3 z4 z5 hz1; rintro e w5 ⟨a2, c2, rfl, R2, n2, hb5⟩; have ow5 := own_on own3 hb5; have hb35 := hb3.trans (hb5.mono hb3.size))
    | (at_builtin; refine wpList_append_row (by rfl) _ _ rfl _ _ _ _ _ rfl ow5 hb35 hb35.size a2 c2 l2 rfl R2 n2 (by omega) ?_; intro v6 w6 own6 hb6; obtain ⟨⟨z0, z1, z2, z3, z4, z5⟩, _⟩ := SE.below (SE.new u ⟨true, k, true, v, t, o⟩) hb6; simp only at z0 z1 z2 z3 z4 z5; have hz1 := World.block_lt_of_cell? _ _ z0; simp only at hz1; clear ow5 R2))
  clear z0 z1 z2 z3 z4 z5 hz1
  refine wp_region_lat (fun y => Below (u.alloc (.cells #[.bool true, .string k, .bool true, .string v, .int .i64 t, .int .i64 (o : Int)] 58)).heap.size (u.alloc (.cells #[.bool true, .string k, .bool true, .string v, .int .i64 t, .int .i64 (o : Int)] 58)) y) 10 (by kernel_rfl) (hb6.drew) (fun hHeld => ?_)
  refine lat_take 0 (v := ?_) rfl (by kernel_rfl) (by kernel_rfl) (by kernel_rfl) (by kernel_rfl) (fun _ _ _ h => h) (by rfl) ?_ (by assumption) ?_
  rotate_left
  · (intro w hSw; obtain ⟨⟨z0, z1, z2, z3, z4, z5⟩, _⟩ := SE.below (SE.new u ⟨true, k, true, v, t, o⟩) hSw; simp only at z0 z1 z2 z3 z4 z5; go_simp <;> with_reducible rfl)
  try simp only [Act.put, List.setIfInBounds_toArray, List.set_cons_zero, List.set_cons_succ]
  refine lat_take 1 (v := ?_) rfl (by kernel_rfl) (by kernel_rfl) (by kernel_rfl) (by kernel_rfl) (fun _ _ _ h => h) (by rfl) ?_ (by assumption) ?_
  rotate_left
  · (intro w hSw; obtain ⟨⟨z0, z1, z2, z3, z4, z5⟩, _⟩ := SE.below (SE.new u ⟨true, k, true, v, t, o⟩) hSw; simp only at z0 z1 z2 z3 z4 z5; go_simp <;> with_reducible rfl)
  try simp only [Act.put, List.setIfInBounds_toArray, List.set_cons_zero, List.set_cons_succ]
  refine lat_take 2 (v := ?_) rfl (by kernel_rfl) (by kernel_rfl) (by kernel_rfl) (by kernel_rfl) (fun _ _ _ h => h) (by rfl) ?_ (by assumption) ?_
  rotate_left
  · (intro w hSw; obtain ⟨⟨z0, z1, z2, z3, z4, z5⟩, _⟩ := SE.below (SE.new u ⟨true, k, true, v, t, o⟩) hSw; simp only at z0 z1 z2 z3 z4 z5; go_simp <;> with_reducible rfl)
  try simp only [Act.put, List.setIfInBounds_toArray, List.set_cons_zero, List.set_cons_succ]
  refine lat_take 3 (v := ?_) rfl (by kernel_rfl) (by kernel_rfl) (by kernel_rfl) (by kernel_rfl) (fun _ _ _ h => h) (by rfl) ?_ (by assumption) ?_
  rotate_left
  · (intro w hSw; obtain ⟨⟨z0, z1, z2, z3, z4, z5⟩, _⟩ := SE.below (SE.new u ⟨true, k, true, v, t, o⟩) hSw; simp only at z0 z1 z2 z3 z4 z5; go_simp <;> with_reducible rfl)
  try simp only [Act.put, List.setIfInBounds_toArray, List.set_cons_zero, List.set_cons_succ]
  refine lat_take 4 (v := ?_) rfl (by kernel_rfl) (by kernel_rfl) (by kernel_rfl) (by kernel_rfl) (fun _ _ _ h => h) (by rfl) ?_ (by assumption) ?_
  rotate_left
  · (intro w hSw; obtain ⟨⟨z0, z1, z2, z3, z4, z5⟩, _⟩ := SE.below (SE.new u ⟨true, k, true, v, t, o⟩) hSw; simp only at z0 z1 z2 z3 z4 z5; go_simp <;> with_reducible rfl)
  try simp only [Act.put, List.setIfInBounds_toArray, List.set_cons_zero, List.set_cons_succ]
  refine lat_take 7 (v := ?_) rfl (by kernel_rfl) (by kernel_rfl) (by kernel_rfl) (by kernel_rfl) (fun _ _ _ h => h) (by rfl) ?_ (by assumption) ?_
  rotate_left
  · (intro w hSw; obtain ⟨⟨z0, z1, z2, z3, z4, z5⟩, _⟩ := SE.below (SE.new u ⟨true, k, true, v, t, o⟩) hSw; simp only at z0 z1 z2 z3 z4 z5; go_simp <;> with_reducible rfl)
  try simp only [Act.put, List.setIfInBounds_toArray, List.set_cons_zero, List.set_cons_succ]
  refine lat_take 8 (v := ?_) rfl (by kernel_rfl) (by kernel_rfl) (by kernel_rfl) (by kernel_rfl) (fun _ _ _ h => h) (by rfl) ?_ (by assumption) ?_
  rotate_left
  · (intro w hSw; obtain ⟨⟨z0, z1, z2, z3, z4, z5⟩, _⟩ := SE.below (SE.new u ⟨true, k, true, v, t, o⟩) hSw; simp only at z0 z1 z2 z3 z4 z5; go_simp <;> with_reducible rfl)
  try simp only [Act.put, List.setIfInBounds_toArray, List.set_cons_zero, List.set_cons_succ]
  refine lat_one 5 rfl (by kernel_rfl) (by decide) (by rfl) (fun K hK => ?_)
  go_simp
  refine Calls.mono (HV3.out _) ?_
  rintro e xK ⟨aK, cK, rfl, RK, nK, hxK⟩
  try dsimp only
  have hyK := hHeld.trans (hxK.mono hHeld.size)
  have owK := own_on (owns_drew own6) hxK
  refine hK.out _ _ hyK (fun hH2 => ?_)
  clear hK hHeld
  try simp only [Act.put, List.setIfInBounds_toArray, List.set_cons_zero, List.set_cons_succ]
  refine lat_one 6 rfl (by kernel_rfl) (by decide) (by rfl) (fun K hK => ?_)
  refine wp_append_row _ _ rfl _ _ _ _ _ rfl owK hH2 hH2.size aK cK l3 rfl RK nK (by omega) ?_
  intro vK yK oxK hzK
  refine hK.out _ _ hzK (fun hH3 => ?_)
  clear hK hH2
  try simp only [Act.put, List.setIfInBounds_toArray, List.set_cons_zero, List.set_cons_succ]
  refine lat_one 9 rfl (by kernel_rfl) (by decide) (by rfl) (fun K hK => ?_)
  refine wp_append_text _ _ rfl _ _ _ _ _ rfl oxK hH3 hH3.size k rfl (by omega) ?_
  intro vvK yyK ownK hbK
  refine hK.out _ _ hbK (fun hH4 => ?_)
  clear hK hH3 hH4 oxK owK
  try simp only [Act.put, List.setIfInBounds_toArray, List.set_cons_zero, List.set_cons_succ]
  refine lat_last 10 rfl (by kernel_rfl) (by decide) (by kernel_rfl) (by rfl) (fun K hK => ?_)
  go_simp
  refine hK.out _ _ ?_
  clear hK
  try simp only [Act.put, List.setIfInBounds_toArray, List.set_cons_zero, List.set_cons_succ]
  obtain ⟨⟨z0, z1, z2, z3, z4, z5⟩, _⟩ := SE.below (SE.new u ⟨true, k, true, v, t, o⟩) hbK
  simp only at z0 z1 z2 z3 z4 z5
  have hz1 := World.block_lt_of_cell? _ _ z0
  simp only at hz1
  go_wp2_with fail
  clear z0 z1 z2 z3 z4 z5 hz1
  refine wp_region_lat (fun y => Below (u.alloc (.cells #[.bool true, .string k, .bool true, .string v, .int .i64 t, .int .i64 (o : Int)] 58)).heap.size (u.alloc (.cells #[.bool true, .string k, .bool true, .string v, .int .i64 t, .int .i64 (o : Int)] 58)) y) 10 (by kernel_rfl) (hbK.drew) (fun hHeld => ?_)
  refine lat_take 0 (v := ?_) rfl (by kernel_rfl) (by kernel_rfl) (by kernel_rfl) (by kernel_rfl) (fun _ _ _ h => h) (by rfl) ?_ (by assumption) ?_
  rotate_left
  · (intro w hSw; obtain ⟨⟨z0, z1, z2, z3, z4, z5⟩, _⟩ := SE.below (SE.new u ⟨true, k, true, v, t, o⟩) hSw; simp only at z0 z1 z2 z3 z4 z5; go_simp <;> with_reducible rfl)
  try simp only [Act.put, List.setIfInBounds_toArray, List.set_cons_zero, List.set_cons_succ]
  refine lat_take 1 (v := ?_) rfl (by kernel_rfl) (by kernel_rfl) (by kernel_rfl) (by kernel_rfl) (fun _ _ _ h => h) (by rfl) ?_ (by assumption) ?_
  rotate_left
  · (intro w hSw; obtain ⟨⟨z0, z1, z2, z3, z4, z5⟩, _⟩ := SE.below (SE.new u ⟨true, k, true, v, t, o⟩) hSw; simp only at z0 z1 z2 z3 z4 z5; go_simp <;> with_reducible rfl)
  try simp only [Act.put, List.setIfInBounds_toArray, List.set_cons_zero, List.set_cons_succ]
  refine lat_take 2 (v := ?_) rfl (by kernel_rfl) (by kernel_rfl) (by kernel_rfl) (by kernel_rfl) (fun _ _ _ h => h) (by rfl) ?_ (by assumption) ?_
  rotate_left
  · (intro w hSw; obtain ⟨⟨z0, z1, z2, z3, z4, z5⟩, _⟩ := SE.below (SE.new u ⟨true, k, true, v, t, o⟩) hSw; simp only at z0 z1 z2 z3 z4 z5; go_simp <;> with_reducible rfl)
  try simp only [Act.put, List.setIfInBounds_toArray, List.set_cons_zero, List.set_cons_succ]
  refine lat_take 3 (v := ?_) rfl (by kernel_rfl) (by kernel_rfl) (by kernel_rfl) (by kernel_rfl) (fun _ _ _ h => h) (by rfl) ?_ (by assumption) ?_
  rotate_left
  · (intro w hSw; obtain ⟨⟨z0, z1, z2, z3, z4, z5⟩, _⟩ := SE.below (SE.new u ⟨true, k, true, v, t, o⟩) hSw; simp only at z0 z1 z2 z3 z4 z5; go_simp <;> with_reducible rfl)
  try simp only [Act.put, List.setIfInBounds_toArray, List.set_cons_zero, List.set_cons_succ]
  refine lat_take 4 (v := ?_) rfl (by kernel_rfl) (by kernel_rfl) (by kernel_rfl) (by kernel_rfl) (fun _ _ _ h => h) (by rfl) ?_ (by assumption) ?_
  rotate_left
  · (intro w hSw; obtain ⟨⟨z0, z1, z2, z3, z4, z5⟩, _⟩ := SE.below (SE.new u ⟨true, k, true, v, t, o⟩) hSw; simp only at z0 z1 z2 z3 z4 z5; go_simp <;> with_reducible rfl)
  try simp only [Act.put, List.setIfInBounds_toArray, List.set_cons_zero, List.set_cons_succ]
  refine lat_take 7 (v := ?_) rfl (by kernel_rfl) (by kernel_rfl) (by kernel_rfl) (by kernel_rfl) (fun _ _ _ h => h) (by rfl) ?_ (by assumption) ?_
  rotate_left
  · (intro w hSw; obtain ⟨⟨z0, z1, z2, z3, z4, z5⟩, _⟩ := SE.below (SE.new u ⟨true, k, true, v, t, o⟩) hSw; simp only at z0 z1 z2 z3 z4 z5; go_simp <;> with_reducible rfl)
  try simp only [Act.put, List.setIfInBounds_toArray, List.set_cons_zero, List.set_cons_succ]
  refine lat_take 8 (v := ?_) rfl (by kernel_rfl) (by kernel_rfl) (by kernel_rfl) (by kernel_rfl) (fun _ _ _ h => h) (by rfl) ?_ (by assumption) ?_
  rotate_left
  · (intro w hSw; obtain ⟨⟨z0, z1, z2, z3, z4, z5⟩, _⟩ := SE.below (SE.new u ⟨true, k, true, v, t, o⟩) hSw; simp only at z0 z1 z2 z3 z4 z5; go_simp <;> with_reducible rfl)
  try simp only [Act.put, List.setIfInBounds_toArray, List.set_cons_zero, List.set_cons_succ]
  refine lat_one 5 rfl (by kernel_rfl) (by decide) (by rfl) (fun K hK => ?_)
  go_simp
  refine Calls.mono (HV4.out _) ?_
  rintro e xV ⟨aV, cV, rfl, RV, nV, hxV⟩
  try dsimp only
  have hyV := hHeld.trans (hxV.mono hHeld.size)
  have owV := own_on (owns_drew ownK) hxV
  refine hK.out _ _ hyV (fun hH2 => ?_)
  clear hK hHeld
  try simp only [Act.put, List.setIfInBounds_toArray, List.set_cons_zero, List.set_cons_succ]
  refine lat_one 6 rfl (by kernel_rfl) (by decide) (by rfl) (fun K hK => ?_)
  refine wp_append_row _ _ rfl _ _ _ _ _ rfl owV hH2 hH2.size aV cV l4 rfl RV nV (by omega) ?_
  intro vV yV oxV hzV
  refine hK.out _ _ hzV (fun hH3 => ?_)
  clear hK hH2
  try simp only [Act.put, List.setIfInBounds_toArray, List.set_cons_zero, List.set_cons_succ]
  refine lat_one 9 rfl (by kernel_rfl) (by decide) (by rfl) (fun K hK => ?_)
  refine wp_append_text _ _ rfl _ _ _ _ _ rfl oxV hH3 hH3.size v rfl (by omega) ?_
  intro vvV yyV ownV hbV
  refine hK.out _ _ hbV (fun hH4 => ?_)
  clear hK hH3 hH4 oxV owV
  try simp only [Act.put, List.setIfInBounds_toArray, List.set_cons_zero, List.set_cons_succ]
  refine lat_last 10 rfl (by kernel_rfl) (by decide) (by kernel_rfl) (by rfl) (fun K hK => ?_)
  go_simp
  refine hK.out _ _ ?_
  clear hK
  try simp only [Act.put, List.setIfInBounds_toArray, List.set_cons_zero, List.set_cons_succ]
  go_wp2_with fail
  go_ret2
  have hbb : Below u.heap.size u _ := (below_box (.cells #[.bool true, .string k, .bool true, .string v, .int .i64 t, .int .i64 (o : Int)] 58)).trans (hbV.mono (by simp))
  refine ⟨_, rfl, ?_, hbb⟩
  have := owns_le (B' := u.heap.size) ownV (by simp)
  exact owns_list this (by rw [HL.out]; simp [cv])
end Go.Proofs.YtgpeldmplkijlaaDoor
