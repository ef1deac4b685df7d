/- Encode. -/
import Derived.Test.YtaooidckmepdeaaDoorJn
import Derived.Test.YtaooidckmepdeaaDoorLat
namespace Go.Proofs.YtaooidckmepdeaaDoor
set_option linter.unusedSimpArgs false
set_option linter.unusedVariables false
open Go.RowKit
/-- A record's bytes. -/
def encL (r : Rc) (first : Int) : List Nat := headN r :: (groups r.o.toNat ++ (groups (zig (r.t - first)).toNat ++ (textL r.hk r.k ++ textL r.hv r.v)))
def encE (r : Rc) (first : Int) : Int := if chk r = 0 then (if timeB first = true then 0 else 1) else chk r
def encR (r : Rc) (first : Int) : List Nat := if encE r first = 0 then encL r first else []
/-- The box of a record, and nothing elder has turned. -/
def SE (w : World) (b : Nat) (hk : Bool) (k : ByteArray) (hv : Bool) (v : ByteArray) (t o : Int) (y : World) : Prop :=
  (y.cell? ⟨b, 0, none⟩ = some (.bool hk) ∧ y.cell? ⟨b, 1, none⟩ = some (.string k) ∧ y.cell? ⟨b, 2, none⟩ = some (.bool hv) ∧ y.cell? ⟨b, 3, none⟩ = some (.string v) ∧ y.cell? ⟨b, 4, none⟩ = some (.int .i64 t) ∧ y.cell? ⟨b, 5, none⟩ = some (.int .i64 o)) ∧ Below w.heap.size w y
theorem SE.below {w y y' : World} {b : Nat} {hk : Bool} {k : ByteArray} {hv : Bool} {v : ByteArray} {t o : Int} (h : SE w b hk k hv v t o y) (hb : Below y.heap.size y y') : SE w b hk k hv v t o y' := by
  obtain ⟨⟨h0, h1, h2, h3, h4, h5⟩, hB⟩ := h
  exact ⟨⟨(hb.cell (World.block_lt_of_cell? _ _ h0)).trans h0, (hb.cell (World.block_lt_of_cell? _ _ h1)).trans h1, (hb.cell (World.block_lt_of_cell? _ _ h2)).trans h2, (hb.cell (World.block_lt_of_cell? _ _ h3)).trans h3, (hb.cell (World.block_lt_of_cell? _ _ h4)).trans h4, (hb.cell (World.block_lt_of_cell? _ _ h5)).trans h5⟩, hB.trans (hb.mono hB.size)⟩
theorem SE.new (w : World) (r : Rc) : SE w w.heap.size r.hk r.k r.hv r.v r.t r.o (w.alloc (.cells r.cells 87)) := by
  have hc : ∀ j, (w.alloc (.cells r.cells 87)).cell? ⟨w.heap.size, j, none⟩ = r.cells[j]? := fun j => cell_of_row _ w.heap.size j r.cells 87 (0, 0) (heap_alloc_new w _)
  exact ⟨⟨by rw [hc]; rfl, by rw [hc]; rfl, by rw [hc]; rfl, by rw [hc]; rfl, by rw [hc]; rfl, by rw [hc]; rfl⟩, below_box _⟩
theorem owns_sl {w : World} {B : Nat} {v : Value} {l : List Nat} (h : w.ownsRow B 5 1 v l.length (cv l)) (hb : ∀ i, l.getD i 0 < 256) : ∃ a c, v = .slice a l.length c ∧ Row w a l ∧ (a = none → c = 0) := by
  rcases h.2 with ⟨rfl, h0⟩ | ⟨g, cap, cur, rfl, hB, hg, hle, hm, _, _⟩
  · refine ⟨none, 0, by rw [h0], ?_, fun _ => rfl⟩
    intro i hi; omega
  · exact ⟨_, cap, rfl, Own.row (B := B) (cap := cap) h hb, fun c => by cases c⟩
theorem app_lt {l m : List Nat} (h : ∀ i, l.getD i 0 < 256) (h2 : ∀ i, m.getD i 0 < 256) : ∀ i, (l ++ m).getD i 0 < 256 := by
  intro i
  have h1 := h i
  have h3 := h2 (i - l.length)
  simp only [List.getD, List.getElem?_append] at *
  split <;> assumption
theorem text_lt (there : Bool) (s : ByteArray) (hs : s.size ≤ 2000) : ∀ i, (textL there s).getD i 0 < 256 := by
  unfold textL
  split
  · exact app_lt (groups_lt _ (by omega)) (sb_lt s)
  · intro i; simp
/-- A call that makes a row of bytes. -/
def Makes (f : Nat) (args : Array Value) (l : List Nat) : Prop := ∀ w', Calls Tryd.prog f args w' fun e w2 => ∃ a c, e = .returned (.slice a l.length c) ∧ Row w2 a l ∧ (a = none → c = 0) ∧ Below w'.heap.size w' w2
theorem varint_makes (V : Nat) (h : V ≤ 18446744073709551615) : Makes 108 #[.int .u64 V] (groups V) := fun w' => by
  refine (varint_any V w' h).mono ?_
  rintro e w2 ⟨v, rfl, hown, hb⟩
  obtain ⟨a, c, rfl, hr, hn⟩ := owns_sl hown (groups_lt V h)
  exact ⟨a, c, rfl, hr, hn, hb⟩
theorem text_makes (there : Bool) (s : ByteArray) (hs : s.size ≤ 2000) : Makes 110 #[.bool there, .string s] (textL there s) := fun w' => by
  refine (text_any there s w' hs).mono ?_
  rintro e w2 ⟨v, rfl, hown, hb⟩
  obtain ⟨a, c, rfl, hr, hn⟩ := owns_sl hown (text_lt there s hs)
  exact ⟨a, c, rfl, hr, hn, hb⟩
theorem head_row (w : World) (h : Nat) (hh : h < 256) : Row (w.alloc (.cells #[.int .u8 (h : Int)] 5)) (some ⟨w.heap.size, 0, none⟩) [h] ∧ Below w.heap.size w (w.alloc (.cells #[.int .u8 (h : Int)] 5)) :=
  ⟨row_alloc w [h] (by intro i; match i with
                       | 0 => simpa
                       | i + 1 => simp), below_box _⟩
theorem pc_five (W : World) {a1 a2 a3 a4 : Option Addr} {c1 c2 c3 c4 h : Nat} {l1 l2 l3 l4 : List Nat} {g0 : Nat} (R0 : Row W (some ⟨g0, 0, none⟩) [h]) (R1 : Row W a1 l1) (R2 : Row W a2 l2) (R3 : Row W a3 l3) (R4 : Row W a4 l4)
    (n1 : a1 = none → c1 = 0) (n2 : a2 = none → c2 = 0) (n3 : a3 = none → c3 = 0) (n4 : a4 = none → c4 = 0) :
    PcAt (W.alloc (.cells #[.slice (some ⟨g0, 0, none⟩) 1 1, .slice a1 l1.length c1, .slice a2 l2.length c2, .slice a3 l3.length c3, .slice a4 l4.length c4] 29)) W.heap.size [(some ⟨g0, 0, none⟩, 1, [h]), (a1, c1, l1), (a2, c2, l2), (a3, c3, l3), (a4, c4, l4)] := by
  refine pc_new W _ [.slice (some ⟨g0, 0, none⟩) 1 1, .slice a1 l1.length c1, .slice a2 l2.length c2, .slice a3 l3.length c3, .slice a4 l4.length c4] (by simp) ?_
  intro p hp
  simp only [List.mem_cons, List.not_mem_nil, or_false] at hp
  rcases hp with rfl | rfl | rfl | rfl | rfl
  · exact ⟨R0, fun c => by cases c⟩
  · exact ⟨R1, n1⟩
  · exact ⟨R2, n2⟩
  · exact ⟨R3, n3⟩
  · exact ⟨R4, n4⟩
theorem join_five {P : Nat} {W : World} {p0 p1 p2 p3 p4 : Option Addr × Nat × List Nat} (h : PcAt W P [p0, p1, p2, p3, p4]) {L : List Nat} (hfl : flat [p0, p1, p2, p3, p4] = L) (hl : L.length ≤ 1000000) :
    Calls Tryd.prog 106 #[.slice (some ⟨P, 0, none⟩) 5 5] W fun e w' => ∃ v, e = .returned v ∧ w'.ownsRow W.heap.size 5 1 v L.length (cv L) ∧ Below W.heap.size W w' := by
  have := join_any P 5 [p0, p1, p2, p3, p4] W h (by simp) (by rw [hfl]; exact hl)
  rw [hfl] at this
  exact this
set_option maxRecDepth 100000 in
set_option maxHeartbeats 1600000 in
theorem encode_ok (hk : Bool) (k : ByteArray) (hv : Bool) (v : ByteArray) (t : Int) (o : Nat) (first : Int) (w : World) (h zn : Nat) (l1 l2 l3 l4 : List Nat) (hh : h < 256)
    (HC : Hid (∀ w', Calls Tryd.prog 102 #[.agg #[.bool hk, .string k, .bool hv, .string v, .int .i64 t, .int .i64 (o : Int)]] w' fun e w2 => e = .returned (.int .i64 0) ∧ Below w'.heap.size w' w2))
    (HI : Hid (∀ w', Calls Tryd.prog 105 #[.int .i64 first] w' fun e w2 => e = .returned (.bool true) ∧ w2 = w'))
    (HH : Hid (∀ w', Calls Tryd.prog 107 #[.agg #[.bool hk, .string k, .bool hv, .string v, .int .i64 t, .int .i64 (o : Int)]] w' fun e w2 => e = .returned (.int .u8 (h : Int)) ∧ Below w'.heap.size w' w2))
    (HV1 : Hid (Makes 108 #[.int .u64 (o : Int)] l1)) (HZ : Hid (∀ w', Calls Tryd.prog 109 #[.int .i64 (t - first)] w' fun e w2 => e = .returned (.int .u64 (zn : Int)) ∧ w2 = w'))
    (HV2 : Hid (Makes 108 #[.int .u64 (zn : Int)] l2)) (HT1 : Hid (Makes 110 #[.bool hk, .string k] l3)) (HT2 : Hid (Makes 110 #[.bool hv, .string v] l4))
    (hwo : IntKind.u64.wrap (o : Int) = (o : Int)) (hwt : IntKind.i64.wrap (t - first) = t - first) (L : List Nat) (HFL : Hid (∀ x c a1 c1 a2 c2 a3 c3 a4 c4, flat [(x, c, [h]), (a1, c1, l1), (a2, c2, l2), (a3, c3, l3), (a4, c4, l4)] = L)) (HEL : Hid (L.length ≤ 1000000)) :
    Calls Tryd.prog 103 #[.agg #[.bool hk, .string k, .bool hv, .string v, .int .i64 t, .int .i64 (o : Int)], .int .i64 first] w fun e w' => ∃ v, e = .returned (.tuple #[v, .int .i64 0]) ∧ w'.ownsRow w.heap.size 5 1 v L.length (cv L) ∧ Below w.heap.size w w' := by
  go_enter Tryd.func103, Tryd.ntmps103
  go_wp2_with (first
    | (go_at_call 102; refine (HC.out _).mono ?_; rintro e w1 ⟨rfl, hb1⟩)
    | (go_at_call 105; refine (HI.out _).mono ?_; rintro e w2 ⟨rfl, hw⟩; subst w2))
  have hS0 : SE w w.heap.size hk k hv v t (o : Int) w1.drew := by
    have := SE.below (SE.new w ⟨hk, k, hv, v, t, o⟩) hb1
    exact ⟨this.1, this.2.drew⟩
  clear hb1 HC HI
  refine wp_region_lat (SE w w.heap.size hk k hv v t (o : Int)) 26 (by kernel_rfl) hS0 (fun hHeld => ?_)
  clear hS0
  refine lat_take 0 (v := ?_) rfl (by kernel_rfl) (by kernel_rfl) (by kernel_rfl) (by kernel_rfl) (fun _ _ _ h => h) (by rfl) ?_ (by assumption) ?_
  rotate_left
  · (intro w hSw; obtain ⟨⟨z0, z1, z2, z3, z4, z5⟩, zb⟩ := hSw; go_simp <;> with_reducible rfl)
  try simp only [Act.put, List.setIfInBounds_toArray, List.set_cons_zero, List.set_cons_succ]
  refine lat_take 3 (v := ?_) rfl (by kernel_rfl) (by kernel_rfl) (by kernel_rfl) (by kernel_rfl) (fun _ _ _ h => h) (by rfl) ?_ (by assumption) ?_
  rotate_left
  · (intro w hSw; obtain ⟨⟨z0, z1, z2, z3, z4, z5⟩, zb⟩ := hSw; go_simp <;> with_reducible rfl)
  try simp only [Act.put, List.setIfInBounds_toArray, List.set_cons_zero, List.set_cons_succ]
  refine lat_take 4 (v := ?_) rfl (by kernel_rfl) (by kernel_rfl) (by kernel_rfl) (by kernel_rfl) (fun _ _ _ h => h) (by rfl) ?_ (by assumption) ?_
  rotate_left
  · (intro w hSw; obtain ⟨⟨z0, z1, z2, z3, z4, z5⟩, zb⟩ := hSw; go_simp <;> with_reducible rfl)
  try simp only [Act.put, List.setIfInBounds_toArray, List.set_cons_zero, List.set_cons_succ]
  refine lat_take 5 (v := ?_) rfl (by kernel_rfl) (by kernel_rfl) (by kernel_rfl) (by kernel_rfl) (fun _ _ _ h => h) (by rfl) ?_ (by assumption) ?_
  rotate_left
  · (intro w hSw; obtain ⟨⟨z0, z1, z2, z3, z4, z5⟩, zb⟩ := hSw; go_simp <;> with_reducible rfl)
  try simp only [Act.put, List.setIfInBounds_toArray, List.set_cons_zero, List.set_cons_succ]
  refine lat_take 7 (v := ?_) rfl (by kernel_rfl) (by kernel_rfl) (by kernel_rfl) (by kernel_rfl) (fun _ _ _ h => h) (by rfl) ?_ (by assumption) ?_
  rotate_left
  · (intro w hSw; obtain ⟨⟨z0, z1, z2, z3, z4, z5⟩, zb⟩ := hSw; go_simp <;> with_reducible rfl)
  try simp only [Act.put, List.setIfInBounds_toArray, List.set_cons_zero, List.set_cons_succ]
  refine lat_take 8 (v := ?_) rfl (by kernel_rfl) (by kernel_rfl) (by kernel_rfl) (by kernel_rfl) (fun _ _ _ h => h) (by rfl) ?_ (by assumption) ?_
  rotate_left
  · (intro w hSw; obtain ⟨⟨z0, z1, z2, z3, z4, z5⟩, zb⟩ := hSw; go_simp <;> with_reducible rfl)
  try simp only [Act.put, List.setIfInBounds_toArray, List.set_cons_zero, List.set_cons_succ]
  refine lat_take 9 (v := ?_) rfl (by kernel_rfl) (by kernel_rfl) (by kernel_rfl) (by kernel_rfl) (fun _ _ _ h => h) (by rfl) ?_ (by assumption) ?_
  rotate_left
  · (intro w hSw; obtain ⟨⟨z0, z1, z2, z3, z4, z5⟩, zb⟩ := hSw; go_simp <;> with_reducible rfl)
  try simp only [Act.put, List.setIfInBounds_toArray, List.set_cons_zero, List.set_cons_succ]
  refine lat_take 10 (v := ?_) rfl (by kernel_rfl) (by kernel_rfl) (by kernel_rfl) (by kernel_rfl) (fun _ _ _ h => h) (by rfl) ?_ (by assumption) ?_
  rotate_left
  · (intro w hSw; obtain ⟨⟨z0, z1, z2, z3, z4, z5⟩, zb⟩ := hSw; go_simp <;> with_reducible rfl)
  try simp only [Act.put, List.setIfInBounds_toArray, List.set_cons_zero, List.set_cons_succ]
  refine lat_take 13 (v := ?_) rfl (by kernel_rfl) (by kernel_rfl) (by kernel_rfl) (by kernel_rfl) (fun _ _ _ h => h) (by rfl) ?_ (by assumption) ?_
  rotate_left
  · (intro w hSw; obtain ⟨⟨z0, z1, z2, z3, z4, z5⟩, zb⟩ := hSw; go_simp <;> with_reducible rfl)
  try simp only [Act.put, List.setIfInBounds_toArray, List.set_cons_zero, List.set_cons_succ]
  refine lat_take 14 (v := ?_) rfl (by kernel_rfl) (by kernel_rfl) (by kernel_rfl) (by kernel_rfl) (fun _ _ _ h => h) (by rfl) ?_ (by assumption) ?_
  rotate_left
  · (intro w hSw; obtain ⟨⟨z0, z1, z2, z3, z4, z5⟩, zb⟩ := hSw; go_simp <;> with_reducible rfl)
  try simp only [Act.put, List.setIfInBounds_toArray, List.set_cons_zero, List.set_cons_succ]
  refine lat_take 15 (v := ?_) rfl (by kernel_rfl) (by kernel_rfl) (by kernel_rfl) (by kernel_rfl) (fun _ _ _ h => h) (by rfl) ?_ (by assumption) ?_
  rotate_left
  · (intro w hSw; obtain ⟨⟨z0, z1, z2, z3, z4, z5⟩, zb⟩ := hSw; go_simp <;> with_reducible rfl)
  try simp only [Act.put, List.setIfInBounds_toArray, List.set_cons_zero, List.set_cons_succ]
  refine lat_take 16 (v := ?_) rfl (by kernel_rfl) (by kernel_rfl) (by kernel_rfl) (by kernel_rfl) (fun _ _ _ h => h) (by rfl) ?_ (by assumption) ?_
  rotate_left
  · (intro w hSw; obtain ⟨⟨z0, z1, z2, z3, z4, z5⟩, zb⟩ := hSw; go_simp <;> with_reducible rfl)
  try simp only [Act.put, List.setIfInBounds_toArray, List.set_cons_zero, List.set_cons_succ]
  refine lat_take 18 (v := ?_) rfl (by kernel_rfl) (by kernel_rfl) (by kernel_rfl) (by kernel_rfl) (fun _ _ _ h => h) (by rfl) ?_ (by assumption) ?_
  rotate_left
  · (intro w hSw; obtain ⟨⟨z0, z1, z2, z3, z4, z5⟩, zb⟩ := hSw; go_simp <;> with_reducible rfl)
  try simp only [Act.put, List.setIfInBounds_toArray, List.set_cons_zero, List.set_cons_succ]
  refine lat_take 19 (v := ?_) rfl (by kernel_rfl) (by kernel_rfl) (by kernel_rfl) (by kernel_rfl) (fun _ _ _ h => h) (by rfl) ?_ (by assumption) ?_
  rotate_left
  · (intro w hSw; obtain ⟨⟨z0, z1, z2, z3, z4, z5⟩, zb⟩ := hSw; go_simp <;> with_reducible rfl)
  try simp only [Act.put, List.setIfInBounds_toArray, List.set_cons_zero, List.set_cons_succ]
  refine lat_take 20 (v := ?_) rfl (by kernel_rfl) (by kernel_rfl) (by kernel_rfl) (by kernel_rfl) (fun _ _ _ h => h) (by rfl) ?_ (by assumption) ?_
  rotate_left
  · (intro w hSw; obtain ⟨⟨z0, z1, z2, z3, z4, z5⟩, zb⟩ := hSw; go_simp <;> with_reducible rfl)
  try simp only [Act.put, List.setIfInBounds_toArray, List.set_cons_zero, List.set_cons_succ]
  refine lat_take 21 (v := ?_) rfl (by kernel_rfl) (by kernel_rfl) (by kernel_rfl) (by kernel_rfl) (fun _ _ _ h => h) (by rfl) ?_ (by assumption) ?_
  rotate_left
  · (intro w hSw; obtain ⟨⟨z0, z1, z2, z3, z4, z5⟩, zb⟩ := hSw; go_simp <;> with_reducible rfl)
  try simp only [Act.put, List.setIfInBounds_toArray, List.set_cons_zero, List.set_cons_succ]
  refine lat_one 1 rfl (by kernel_rfl) (by decide) (by rfl) (fun K hK => ?_)
  go_simp
  refine Calls.mono (HH.out _) ?_
  rintro e vH ⟨rfl, hbH⟩
  dsimp only
  refine hK.out _ _ (SE.below hHeld hbH) (fun hSH => ?_)
  clear hK hHeld
  try simp only [Act.put, List.setIfInBounds_toArray, List.set_cons_zero, List.set_cons_succ]
  refine lat_two 2 6 rfl rfl (by kernel_rfl) (by decide) (by decide) (by rfl) (by rfl) (fun K hK => ?_) (fun K hK => ?_)
  · go_simp
    try dsimp only
    obtain ⟨R0, hbZ⟩ := head_row _ h hh
    refine hK.out _ _ (SE.below hSH hbZ) (fun hSZ => ?_)
    clear hK hSH
    try simp only [Act.put, List.setIfInBounds_toArray, List.set_cons_zero, List.set_cons_succ]
    refine lat_one 6 rfl (by kernel_rfl) (by decide) (by rfl) (fun K hK => ?_)
    go_simp
    refine Calls.mono (HV1.out _) ?_
    rintro e vA ⟨a1, c1, rfl, R1, n1, hbA⟩
    try dsimp only
    have R0 := R0.below hbA
    refine hK.out _ _ (SE.below hSZ hbA) (fun hSA => ?_)
    clear hK hSZ
    try simp only [Act.put, List.setIfInBounds_toArray, List.set_cons_zero, List.set_cons_succ]
    refine lat_one 11 rfl (by kernel_rfl) (by decide) (by rfl) (fun K hK => ?_)
    go_simp
    refine Calls.mono (HZ.out _) ?_
    rintro e vB ⟨rfl, hw⟩
    subst vB
    try dsimp only
    refine hK.out _ _ hSA (fun hSB => ?_)
    clear hK hSA
    try simp only [Act.put, List.setIfInBounds_toArray, List.set_cons_zero, List.set_cons_succ]
    refine lat_one 12 rfl (by kernel_rfl) (by decide) (by rfl) (fun K hK => ?_)
    go_simp
    refine Calls.mono (HV2.out _) ?_
    rintro e vC ⟨a2, c2, rfl, R2, n2, hbC⟩
    try dsimp only
    have R0 := R0.below hbC
    have R1 := R1.below hbC
    refine hK.out _ _ (SE.below hSB hbC) (fun hSC => ?_)
    clear hK hSB
    try simp only [Act.put, List.setIfInBounds_toArray, List.set_cons_zero, List.set_cons_succ]
    refine lat_one 17 rfl (by kernel_rfl) (by decide) (by rfl) (fun K hK => ?_)
    go_simp
    refine Calls.mono (HT1.out _) ?_
    rintro e vD ⟨a3, c3, rfl, R3, n3, hbD⟩
    try dsimp only
    have R0 := R0.below hbD
    have R1 := R1.below hbD
    have R2 := R2.below hbD
    refine hK.out _ _ (SE.below hSC hbD) (fun hSD => ?_)
    clear hK hSC
    try simp only [Act.put, List.setIfInBounds_toArray, List.set_cons_zero, List.set_cons_succ]
    refine lat_one 22 rfl (by kernel_rfl) (by decide) (by rfl) (fun K hK => ?_)
    go_simp
    refine Calls.mono (HT2.out _) ?_
    rintro e vE ⟨a4, c4, rfl, R4, n4, hbE⟩
    try dsimp only
    have R0 := R0.below hbE
    have R1 := R1.below hbE
    have R2 := R2.below hbE
    have R3 := R3.below hbE
    refine hK.out _ _ (SE.below hSD hbE) (fun hSE => ?_)
    clear hK hSD
    try simp only [Act.put, List.setIfInBounds_toArray, List.set_cons_zero, List.set_cons_succ]
    refine lat_one 23 rfl (by kernel_rfl) (by decide) (by rfl) (fun K hK => ?_)
    go_simp
    try dsimp only
    have HPC := pc_five _ R0 R1 R2 R3 R4 n1 n2 n3 n4
    refine hK.out _ _ (SE.below hSE (below_box _)) (fun hSY => ?_)
    clear hK hSE R0 R1 R2 R3 R4
    try simp only [Act.put, List.setIfInBounds_toArray, List.set_cons_zero, List.set_cons_succ]
    refine lat_one 24 rfl (by kernel_rfl) (by decide) (by rfl) (fun K hK => ?_)
    go_simp
    refine Calls.mono (join_five HPC (HFL.out _ _ _ _ _ _ _ _ _ _) HEL.out) ?_
    rintro e vX ⟨v, rfl, hown, hbX⟩
    try dsimp only
    have hOW := owns_le hown hSY.2.size
    refine hK.out _ _ (SE.below hSY hbX) (fun hSX => ?_)
    clear hK hSY hown HPC
    try simp only [Act.put, List.setIfInBounds_toArray, List.set_cons_zero, List.set_cons_succ]
    refine lat_take 25 (v := ?_) rfl (by kernel_rfl) (by kernel_rfl) (by kernel_rfl) (by kernel_rfl) (fun _ _ _ h => h) (by rfl) ?_ (by assumption) ?_
    rotate_left
    · (intro w hSw; obtain ⟨⟨z0, z1, z2, z3, z4, z5⟩, zb⟩ := hSw; go_simp <;> with_reducible rfl)
    try simp only [Act.put, List.setIfInBounds_toArray, List.set_cons_zero, List.set_cons_succ]
    refine lat_last 26 rfl (by kernel_rfl) (by decide) (by kernel_rfl) (by rfl) (fun K hK => ?_)
    go_simp
    refine hK.out _ _ ?_
    clear hK
    try simp only [Act.put, List.setIfInBounds_toArray, List.set_cons_zero, List.set_cons_succ]
    go_wp2_with fail
    go_ret2
    exact ⟨_, rfl, hOW, hSX.2⟩
  · go_simp
    refine Calls.mono (HV1.out _) ?_
    rintro e vA ⟨a1, c1, rfl, R1, n1, hbA⟩
    try dsimp only
    refine hK.out _ _ (SE.below hSH hbA) (fun hSA => ?_)
    clear hK hSH
    try simp only [Act.put, List.setIfInBounds_toArray, List.set_cons_zero, List.set_cons_succ]
    refine lat_two 2 11 rfl rfl (by kernel_rfl) (by decide) (by decide) (by rfl) (by rfl) (fun K hK => ?_) (fun K hK => ?_)
    · go_simp
      try dsimp only
      obtain ⟨R0, hbZ⟩ := head_row _ h hh
      have R1 := R1.below hbZ
      refine hK.out _ _ (SE.below hSA hbZ) (fun hSZ => ?_)
      clear hK hSA
      try simp only [Act.put, List.setIfInBounds_toArray, List.set_cons_zero, List.set_cons_succ]
      refine lat_one 11 rfl (by kernel_rfl) (by decide) (by rfl) (fun K hK => ?_)
      go_simp
      refine Calls.mono (HZ.out _) ?_
      rintro e vB ⟨rfl, hw⟩
      subst vB
      try dsimp only
      refine hK.out _ _ hSZ (fun hSB => ?_)
      clear hK hSZ
      try simp only [Act.put, List.setIfInBounds_toArray, List.set_cons_zero, List.set_cons_succ]
      refine lat_one 12 rfl (by kernel_rfl) (by decide) (by rfl) (fun K hK => ?_)
      go_simp
      refine Calls.mono (HV2.out _) ?_
      rintro e vC ⟨a2, c2, rfl, R2, n2, hbC⟩
      try dsimp only
      have R1 := R1.below hbC
      have R0 := R0.below hbC
      refine hK.out _ _ (SE.below hSB hbC) (fun hSC => ?_)
      clear hK hSB
      try simp only [Act.put, List.setIfInBounds_toArray, List.set_cons_zero, List.set_cons_succ]
      refine lat_one 17 rfl (by kernel_rfl) (by decide) (by rfl) (fun K hK => ?_)
      go_simp
      refine Calls.mono (HT1.out _) ?_
      rintro e vD ⟨a3, c3, rfl, R3, n3, hbD⟩
      try dsimp only
      have R1 := R1.below hbD
      have R0 := R0.below hbD
      have R2 := R2.below hbD
      refine hK.out _ _ (SE.below hSC hbD) (fun hSD => ?_)
      clear hK hSC
      try simp only [Act.put, List.setIfInBounds_toArray, List.set_cons_zero, List.set_cons_succ]
      refine lat_one 22 rfl (by kernel_rfl) (by decide) (by rfl) (fun K hK => ?_)
      go_simp
      refine Calls.mono (HT2.out _) ?_
      rintro e vE ⟨a4, c4, rfl, R4, n4, hbE⟩
      try dsimp only
      have R1 := R1.below hbE
      have R0 := R0.below hbE
      have R2 := R2.below hbE
      have R3 := R3.below hbE
      refine hK.out _ _ (SE.below hSD hbE) (fun hSE => ?_)
      clear hK hSD
      try simp only [Act.put, List.setIfInBounds_toArray, List.set_cons_zero, List.set_cons_succ]
      refine lat_one 23 rfl (by kernel_rfl) (by decide) (by rfl) (fun K hK => ?_)
      go_simp
      try dsimp only
      have HPC := pc_five _ R0 R1 R2 R3 R4 n1 n2 n3 n4
      refine hK.out _ _ (SE.below hSE (below_box _)) (fun hSY => ?_)
      clear hK hSE R0 R1 R2 R3 R4
      try simp only [Act.put, List.setIfInBounds_toArray, List.set_cons_zero, List.set_cons_succ]
      refine lat_one 24 rfl (by kernel_rfl) (by decide) (by rfl) (fun K hK => ?_)
      go_simp
      refine Calls.mono (join_five HPC (HFL.out _ _ _ _ _ _ _ _ _ _) HEL.out) ?_
      rintro e vX ⟨v, rfl, hown, hbX⟩
      try dsimp only
      have hOW := owns_le hown hSY.2.size
      refine hK.out _ _ (SE.below hSY hbX) (fun hSX => ?_)
      clear hK hSY hown HPC
      try simp only [Act.put, List.setIfInBounds_toArray, List.set_cons_zero, List.set_cons_succ]
      refine lat_take 25 (v := ?_) rfl (by kernel_rfl) (by kernel_rfl) (by kernel_rfl) (by kernel_rfl) (fun _ _ _ h => h) (by rfl) ?_ (by assumption) ?_
      rotate_left
      · (intro w hSw; obtain ⟨⟨z0, z1, z2, z3, z4, z5⟩, zb⟩ := hSw; go_simp <;> with_reducible rfl)
      try simp only [Act.put, List.setIfInBounds_toArray, List.set_cons_zero, List.set_cons_succ]
      refine lat_last 26 rfl (by kernel_rfl) (by decide) (by kernel_rfl) (by rfl) (fun K hK => ?_)
      go_simp
      refine hK.out _ _ ?_
      clear hK
      try simp only [Act.put, List.setIfInBounds_toArray, List.set_cons_zero, List.set_cons_succ]
      go_wp2_with fail
      go_ret2
      exact ⟨_, rfl, hOW, hSX.2⟩
    · go_simp
      refine Calls.mono (HZ.out _) ?_
      rintro e vB ⟨rfl, hw⟩
      subst vB
      try dsimp only
      refine hK.out _ _ hSA (fun hSB => ?_)
      clear hK hSA
      try simp only [Act.put, List.setIfInBounds_toArray, List.set_cons_zero, List.set_cons_succ]
      refine lat_two 2 12 rfl rfl (by kernel_rfl) (by decide) (by decide) (by rfl) (by rfl) (fun K hK => ?_) (fun K hK => ?_)
      · go_simp
        try dsimp only
        obtain ⟨R0, hbZ⟩ := head_row _ h hh
        have R1 := R1.below hbZ
        refine hK.out _ _ (SE.below hSB hbZ) (fun hSZ => ?_)
        clear hK hSB
        try simp only [Act.put, List.setIfInBounds_toArray, List.set_cons_zero, List.set_cons_succ]
        refine lat_one 12 rfl (by kernel_rfl) (by decide) (by rfl) (fun K hK => ?_)
        go_simp
        refine Calls.mono (HV2.out _) ?_
        rintro e vC ⟨a2, c2, rfl, R2, n2, hbC⟩
        try dsimp only
        have R1 := R1.below hbC
        have R0 := R0.below hbC
        refine hK.out _ _ (SE.below hSZ hbC) (fun hSC => ?_)
        clear hK hSZ
        try simp only [Act.put, List.setIfInBounds_toArray, List.set_cons_zero, List.set_cons_succ]
        refine lat_one 17 rfl (by kernel_rfl) (by decide) (by rfl) (fun K hK => ?_)
        go_simp
        refine Calls.mono (HT1.out _) ?_
        rintro e vD ⟨a3, c3, rfl, R3, n3, hbD⟩
        try dsimp only
        have R1 := R1.below hbD
        have R0 := R0.below hbD
        have R2 := R2.below hbD
        refine hK.out _ _ (SE.below hSC hbD) (fun hSD => ?_)
        clear hK hSC
        try simp only [Act.put, List.setIfInBounds_toArray, List.set_cons_zero, List.set_cons_succ]
        refine lat_one 22 rfl (by kernel_rfl) (by decide) (by rfl) (fun K hK => ?_)
        go_simp
        refine Calls.mono (HT2.out _) ?_
        rintro e vE ⟨a4, c4, rfl, R4, n4, hbE⟩
        try dsimp only
        have R1 := R1.below hbE
        have R0 := R0.below hbE
        have R2 := R2.below hbE
        have R3 := R3.below hbE
        refine hK.out _ _ (SE.below hSD hbE) (fun hSE => ?_)
        clear hK hSD
        try simp only [Act.put, List.setIfInBounds_toArray, List.set_cons_zero, List.set_cons_succ]
        refine lat_one 23 rfl (by kernel_rfl) (by decide) (by rfl) (fun K hK => ?_)
        go_simp
        try dsimp only
        have HPC := pc_five _ R0 R1 R2 R3 R4 n1 n2 n3 n4
        refine hK.out _ _ (SE.below hSE (below_box _)) (fun hSY => ?_)
        clear hK hSE R0 R1 R2 R3 R4
        try simp only [Act.put, List.setIfInBounds_toArray, List.set_cons_zero, List.set_cons_succ]
        refine lat_one 24 rfl (by kernel_rfl) (by decide) (by rfl) (fun K hK => ?_)
        go_simp
        refine Calls.mono (join_five HPC (HFL.out _ _ _ _ _ _ _ _ _ _) HEL.out) ?_
        rintro e vX ⟨v, rfl, hown, hbX⟩
        try dsimp only
        have hOW := owns_le hown hSY.2.size
        refine hK.out _ _ (SE.below hSY hbX) (fun hSX => ?_)
        clear hK hSY hown HPC
        try simp only [Act.put, List.setIfInBounds_toArray, List.set_cons_zero, List.set_cons_succ]
        refine lat_take 25 (v := ?_) rfl (by kernel_rfl) (by kernel_rfl) (by kernel_rfl) (by kernel_rfl) (fun _ _ _ h => h) (by rfl) ?_ (by assumption) ?_
        rotate_left
        · (intro w hSw; obtain ⟨⟨z0, z1, z2, z3, z4, z5⟩, zb⟩ := hSw; go_simp <;> with_reducible rfl)
        try simp only [Act.put, List.setIfInBounds_toArray, List.set_cons_zero, List.set_cons_succ]
        refine lat_last 26 rfl (by kernel_rfl) (by decide) (by kernel_rfl) (by rfl) (fun K hK => ?_)
        go_simp
        refine hK.out _ _ ?_
        clear hK
        try simp only [Act.put, List.setIfInBounds_toArray, List.set_cons_zero, List.set_cons_succ]
        go_wp2_with fail
        go_ret2
        exact ⟨_, rfl, hOW, hSX.2⟩
      · go_simp
        refine Calls.mono (HV2.out _) ?_
        rintro e vC ⟨a2, c2, rfl, R2, n2, hbC⟩
        try dsimp only
        have R1 := R1.below hbC
        refine hK.out _ _ (SE.below hSB hbC) (fun hSC => ?_)
        clear hK hSB
        try simp only [Act.put, List.setIfInBounds_toArray, List.set_cons_zero, List.set_cons_succ]
        refine lat_two 2 17 rfl rfl (by kernel_rfl) (by decide) (by decide) (by rfl) (by rfl) (fun K hK => ?_) (fun K hK => ?_)
        · go_simp
          try dsimp only
          obtain ⟨R0, hbZ⟩ := head_row _ h hh
          have R1 := R1.below hbZ
          have R2 := R2.below hbZ
          refine hK.out _ _ (SE.below hSC hbZ) (fun hSZ => ?_)
          clear hK hSC
          try simp only [Act.put, List.setIfInBounds_toArray, List.set_cons_zero, List.set_cons_succ]
          refine lat_one 17 rfl (by kernel_rfl) (by decide) (by rfl) (fun K hK => ?_)
          go_simp
          refine Calls.mono (HT1.out _) ?_
          rintro e vD ⟨a3, c3, rfl, R3, n3, hbD⟩
          try dsimp only
          have R1 := R1.below hbD
          have R2 := R2.below hbD
          have R0 := R0.below hbD
          refine hK.out _ _ (SE.below hSZ hbD) (fun hSD => ?_)
          clear hK hSZ
          try simp only [Act.put, List.setIfInBounds_toArray, List.set_cons_zero, List.set_cons_succ]
          refine lat_one 22 rfl (by kernel_rfl) (by decide) (by rfl) (fun K hK => ?_)
          go_simp
          refine Calls.mono (HT2.out _) ?_
          rintro e vE ⟨a4, c4, rfl, R4, n4, hbE⟩
          try dsimp only
          have R1 := R1.below hbE
          have R2 := R2.below hbE
          have R0 := R0.below hbE
          have R3 := R3.below hbE
          refine hK.out _ _ (SE.below hSD hbE) (fun hSE => ?_)
          clear hK hSD
          try simp only [Act.put, List.setIfInBounds_toArray, List.set_cons_zero, List.set_cons_succ]
          refine lat_one 23 rfl (by kernel_rfl) (by decide) (by rfl) (fun K hK => ?_)
          go_simp
          try dsimp only
          have HPC := pc_five _ R0 R1 R2 R3 R4 n1 n2 n3 n4
          refine hK.out _ _ (SE.below hSE (below_box _)) (fun hSY => ?_)
          clear hK hSE R0 R1 R2 R3 R4
          try simp only [Act.put, List.setIfInBounds_toArray, List.set_cons_zero, List.set_cons_succ]
          refine lat_one 24 rfl (by kernel_rfl) (by decide) (by rfl) (fun K hK => ?_)
          go_simp
          refine Calls.mono (join_five HPC (HFL.out _ _ _ _ _ _ _ _ _ _) HEL.out) ?_
          rintro e vX ⟨v, rfl, hown, hbX⟩
          try dsimp only
          have hOW := owns_le hown hSY.2.size
          refine hK.out _ _ (SE.below hSY hbX) (fun hSX => ?_)
          clear hK hSY hown HPC
          try simp only [Act.put, List.setIfInBounds_toArray, List.set_cons_zero, List.set_cons_succ]
          refine lat_take 25 (v := ?_) rfl (by kernel_rfl) (by kernel_rfl) (by kernel_rfl) (by kernel_rfl) (fun _ _ _ h => h) (by rfl) ?_ (by assumption) ?_
          rotate_left
          · (intro w hSw; obtain ⟨⟨z0, z1, z2, z3, z4, z5⟩, zb⟩ := hSw; go_simp <;> with_reducible rfl)
          try simp only [Act.put, List.setIfInBounds_toArray, List.set_cons_zero, List.set_cons_succ]
          refine lat_last 26 rfl (by kernel_rfl) (by decide) (by kernel_rfl) (by rfl) (fun K hK => ?_)
          go_simp
          refine hK.out _ _ ?_
          clear hK
          try simp only [Act.put, List.setIfInBounds_toArray, List.set_cons_zero, List.set_cons_succ]
          go_wp2_with fail
          go_ret2
          exact ⟨_, rfl, hOW, hSX.2⟩
        · go_simp
          refine Calls.mono (HT1.out _) ?_
          rintro e vD ⟨a3, c3, rfl, R3, n3, hbD⟩
          try dsimp only
          have R1 := R1.below hbD
          have R2 := R2.below hbD
          refine hK.out _ _ (SE.below hSC hbD) (fun hSD => ?_)
          clear hK hSC
          try simp only [Act.put, List.setIfInBounds_toArray, List.set_cons_zero, List.set_cons_succ]
          refine lat_two 2 22 rfl rfl (by kernel_rfl) (by decide) (by decide) (by rfl) (by rfl) (fun K hK => ?_) (fun K hK => ?_)
          · go_simp
            try dsimp only
            obtain ⟨R0, hbZ⟩ := head_row _ h hh
            have R1 := R1.below hbZ
            have R2 := R2.below hbZ
            have R3 := R3.below hbZ
            refine hK.out _ _ (SE.below hSD hbZ) (fun hSZ => ?_)
            clear hK hSD
            try simp only [Act.put, List.setIfInBounds_toArray, List.set_cons_zero, List.set_cons_succ]
            refine lat_one 22 rfl (by kernel_rfl) (by decide) (by rfl) (fun K hK => ?_)
            go_simp
            refine Calls.mono (HT2.out _) ?_
            rintro e vE ⟨a4, c4, rfl, R4, n4, hbE⟩
            try dsimp only
            have R1 := R1.below hbE
            have R2 := R2.below hbE
            have R3 := R3.below hbE
            have R0 := R0.below hbE
            refine hK.out _ _ (SE.below hSZ hbE) (fun hSE => ?_)
            clear hK hSZ
            try simp only [Act.put, List.setIfInBounds_toArray, List.set_cons_zero, List.set_cons_succ]
            refine lat_one 23 rfl (by kernel_rfl) (by decide) (by rfl) (fun K hK => ?_)
            go_simp
            try dsimp only
            have HPC := pc_five _ R0 R1 R2 R3 R4 n1 n2 n3 n4
            refine hK.out _ _ (SE.below hSE (below_box _)) (fun hSY => ?_)
            clear hK hSE R0 R1 R2 R3 R4
            try simp only [Act.put, List.setIfInBounds_toArray, List.set_cons_zero, List.set_cons_succ]
            refine lat_one 24 rfl (by kernel_rfl) (by decide) (by rfl) (fun K hK => ?_)
            go_simp
            refine Calls.mono (join_five HPC (HFL.out _ _ _ _ _ _ _ _ _ _) HEL.out) ?_
            rintro e vX ⟨v, rfl, hown, hbX⟩
            try dsimp only
            have hOW := owns_le hown hSY.2.size
            refine hK.out _ _ (SE.below hSY hbX) (fun hSX => ?_)
            clear hK hSY hown HPC
            try simp only [Act.put, List.setIfInBounds_toArray, List.set_cons_zero, List.set_cons_succ]
            refine lat_take 25 (v := ?_) rfl (by kernel_rfl) (by kernel_rfl) (by kernel_rfl) (by kernel_rfl) (fun _ _ _ h => h) (by rfl) ?_ (by assumption) ?_
            rotate_left
            · (intro w hSw; obtain ⟨⟨z0, z1, z2, z3, z4, z5⟩, zb⟩ := hSw; go_simp <;> with_reducible rfl)
            try simp only [Act.put, List.setIfInBounds_toArray, List.set_cons_zero, List.set_cons_succ]
            refine lat_last 26 rfl (by kernel_rfl) (by decide) (by kernel_rfl) (by rfl) (fun K hK => ?_)
            go_simp
            refine hK.out _ _ ?_
            clear hK
            try simp only [Act.put, List.setIfInBounds_toArray, List.set_cons_zero, List.set_cons_succ]
            go_wp2_with fail
            go_ret2
            exact ⟨_, rfl, hOW, hSX.2⟩
          · go_simp
            refine Calls.mono (HT2.out _) ?_
            rintro e vE ⟨a4, c4, rfl, R4, n4, hbE⟩
            try dsimp only
            have R1 := R1.below hbE
            have R2 := R2.below hbE
            have R3 := R3.below hbE
            refine hK.out _ _ (SE.below hSD hbE) (fun hSE => ?_)
            clear hK hSD
            try simp only [Act.put, List.setIfInBounds_toArray, List.set_cons_zero, List.set_cons_succ]
            refine lat_one 2 rfl (by kernel_rfl) (by decide) (by rfl) (fun K hK => ?_)
            go_simp
            try dsimp only
            obtain ⟨R0, hbZ⟩ := head_row _ h hh
            have R1 := R1.below hbZ
            have R2 := R2.below hbZ
            have R3 := R3.below hbZ
            have R4 := R4.below hbZ
            refine hK.out _ _ (SE.below hSE hbZ) (fun hSZ => ?_)
            clear hK hSE
            try simp only [Act.put, List.setIfInBounds_toArray, List.set_cons_zero, List.set_cons_succ]
            refine lat_one 23 rfl (by kernel_rfl) (by decide) (by rfl) (fun K hK => ?_)
            go_simp
            try dsimp only
            have HPC := pc_five _ R0 R1 R2 R3 R4 n1 n2 n3 n4
            rw [World.size_alloc] at HPC
            refine hK.out _ _ (SE.below hSZ (below_box _)) (fun hSY => ?_)
            clear hK hSZ R0 R1 R2 R3 R4
            try simp only [Act.put, List.setIfInBounds_toArray, List.set_cons_zero, List.set_cons_succ]
            refine lat_one 24 rfl (by kernel_rfl) (by decide) (by rfl) (fun K hK => ?_)
            go_simp
            refine Calls.mono (join_five HPC (HFL.out _ _ _ _ _ _ _ _ _ _) HEL.out) ?_
            rintro e vX ⟨v, rfl, hown, hbX⟩
            try dsimp only
            have hOW := owns_le hown hSY.2.size
            refine hK.out _ _ (SE.below hSY hbX) (fun hSX => ?_)
            clear hK hSY hown HPC
            try simp only [Act.put, List.setIfInBounds_toArray, List.set_cons_zero, List.set_cons_succ]
            refine lat_take 25 (v := ?_) rfl (by kernel_rfl) (by kernel_rfl) (by kernel_rfl) (by kernel_rfl) (fun _ _ _ h => h) (by rfl) ?_ (by assumption) ?_
            rotate_left
            · (intro w hSw; obtain ⟨⟨z0, z1, z2, z3, z4, z5⟩, zb⟩ := hSw; go_simp <;> with_reducible rfl)
            try simp only [Act.put, List.setIfInBounds_toArray, List.set_cons_zero, List.set_cons_succ]
            refine lat_last 26 rfl (by kernel_rfl) (by decide) (by kernel_rfl) (by rfl) (fun K hK => ?_)
            go_simp
            refine hK.out _ _ ?_
            clear hK
            try simp only [Act.put, List.setIfInBounds_toArray, List.set_cons_zero, List.set_cons_succ]
            go_wp2_with fail
            go_ret2
            exact ⟨_, rfl, hOW, hSX.2⟩
theorem time_iff (t : Int) : timeB t = true ↔ 0 ≤ t ∧ t ≤ 1125899906842624 := by simp [timeB]
theorem chk_ok {r : Rc} (h : chk r = 0) : 0 ≤ r.t ∧ r.t ≤ 1125899906842624 ∧ 0 ≤ r.o ∧ r.o ≤ 99 ∧ r.k.size ≤ 2000 ∧ r.v.size ≤ 2000 ∧ (r.hk = false → r.k.toList = []) ∧ (r.hv = false → r.v.toList = []) := by
  unfold chk at h
  split at h
  · omega
  · rename_i ho
    split at h
    · omega
    · rename_i hs
      simp only [oddB, timeB] at ho
      grind
theorem headN_lt (r : Rc) : headN r < 256 := by
  unfold headN headB
  split <;> split <;> omega
theorem text_len (there : Bool) (s : ByteArray) : (textL there s).length ≤ 10 + s.size := by
  unfold textL
  split
  · have := (groups_len s.size).2
    simp only [List.length_append, sb_len]
    omega
  · simp
theorem encL_len (r : Rc) (first : Int) (h1 : r.k.size ≤ 2000) (h2 : r.v.size ≤ 2000) : (encL r first).length ≤ 5000 := by
  unfold encL
  have a1 := (groups_len r.o.toNat).2
  have a2 := (groups_len (zig (r.t - first)).toNat).2
  have a3 := text_len r.hk r.k
  have a4 := text_len r.hv r.v
  simp only [List.length_cons, List.length_append]
  omega
theorem encode_any (r : Rc) (first : Int) (w : World) :
    Calls Tryd.prog 103 #[.agg r.cells, .int .i64 first] w fun e w' => ∃ v, e = .returned (.tuple #[v, .int .i64 (encE r first)]) ∧ w'.ownsRow w.heap.size 5 1 v (encR r first).length (cv (encR r first)) ∧ Below w.heap.size w w' := by
  have HC : Hid _ := check_any r
  have HI : Hid _ := isTime_any first
  by_cases hc : chk r = 0
  · rw [hc] at HC
    by_cases ht : timeB first = true
    · rw [ht] at HI
      have hE : encE r first = 0 := by simp [encE, hc, ht]
      have hR : encR r first = encL r first := by simp [encR, hE]
      obtain ⟨t0, t1, o0, o1, k1, v1, _, _⟩ := chk_ok hc
      obtain ⟨f0, f1⟩ := (time_iff first).1 ht
      rw [hE, hR]
      obtain ⟨on, hon⟩ := Int.eq_ofNat_of_zero_le o0
      have hz := zig_bd (r.t - first) (by omega) (by omega)
      obtain ⟨zn, hzn⟩ := Int.eq_ofNat_of_zero_le hz.1
      have HH : Hid _ := head_any r
      have HZ : Hid _ := fun w' => zig_any (r.t - first) w' (by omega) (by omega)
      have HEL : Hid ((encL r first).length ≤ 1000000) := Nat.le_trans (encL_len r first k1 v1) (by omega)
      have HFL : Hid (∀ x c a1 c1 a2 c2 a3 c3 a4 c4, flat [(x, c, [headN r]), (a1, c1, groups on), (a2, c2, groups zn), (a3, c3, textL r.hk r.k), (a4, c4, textL r.hv r.v)] = encL r first) := by
        intro x c a1 c1 a2 c2 a3 c3 a4 c4
        unfold encL
        rw [hon, hzn]
        simp [flat]
      have hb := headN_lt r
      generalize encL r first = L at *
      generalize headN r = h at *
      obtain ⟨hk, k, hv, v, t, o⟩ := r
      simp only at *
      subst hon
      rw [hzn] at HZ
      refine encode_ok hk k hv v t on first w h zn (groups on) (groups zn) (textL hk k) (textL hv v) hb HC HI HH (varint_makes on (by omega)) HZ (varint_makes zn (by omega)) (text_makes hk k k1) (text_makes hv v v1) (by rw [IntKind.wrap_u64]; omega) (by rw [IntKind.wrap_i64]; omega) L HFL HEL
    · have ht' : timeB first = false := by simpa using ht
      rw [ht'] at HI
      have hE : encE r first = 1 := by simp [encE, hc, ht']
      have hR : encR r first = [] := by simp [encR, hE]
      rw [hE, hR]
      obtain ⟨hk, k, hv, v, t, o⟩ := r
      simp only [Rc.cells] at HC ⊢
      clear hE hR hc ht ht'
      go_enter Tryd.func103, Tryd.ntmps103
      go_wp2_with (first
        | (go_at_call 102; refine (HC.out _).mono ?_; rintro e w1 ⟨rfl, hb1⟩)
        | (go_at_call 105; refine (HI.out _).mono ?_; rintro e w2 ⟨rfl, hw⟩; subst w2))
      go_ret2
      exact ⟨_, rfl, World.ownsRow_nil _ _ _ _, (below_box _).trans (hb1.mono (by simp))⟩
  · have hE : encE r first = chk r := by simp [encE, hc]
    have hR : encR r first = [] := by simp [encR, hE, hc]
    rw [hE, hR]
    have hne : (chk r != 0) = true := by simpa using hc
    obtain ⟨hk, k, hv, v, t, o⟩ := r
    generalize chk ⟨hk, k, hv, v, t, o⟩ = c at *
    simp only [Rc.cells] at HC ⊢
    clear hE hR hc
    go_enter Tryd.func103, Tryd.ntmps103
    go_wp2_with (first
      | (go_at_call 102; refine (HC.out _).mono ?_; rintro e w1 ⟨rfl, hb1⟩)
      | (go_at_call 105; refine (HI.out _).mono ?_; rintro e w2 ⟨rfl, hw⟩; subst w2))
    go_ret2
    exact ⟨_, rfl, World.ownsRow_nil _ _ _ _, (below_box _).trans (hb1.mono (by simp))⟩
end Go.Proofs.YtaooidckmepdeaaDoor
