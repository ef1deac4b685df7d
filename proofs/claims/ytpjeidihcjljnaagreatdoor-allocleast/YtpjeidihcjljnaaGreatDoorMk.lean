/- Make: which plan it is. -/
import Derived.Test.YtpjeidihcjljnaaGreatDoorBt
import Derived.Laws.ResultCell
namespace Go.Proofs.YtpjeidihcjljnaaGreatDoor
set_option linter.unusedSimpArgs false
set_option linter.unusedVariables false
open Go.RowKit
/-- The short table of the areas. -/
def Hol (w : World) : Prop := w.cell? ⟨0, 0, none⟩ = some (.int .i64 4096) ∧ w.cell? ⟨0, 1, none⟩ = some (.int .i64 4096) ∧ w.cell? ⟨0, 2, none⟩ = some (.int .i64 8)
theorem Hol.below {w w' : World} (h : Hol w) (hb : Below w.heap.size w w') : Hol w' :=
  ⟨by rw [hb.cell (World.block_lt_of_cell? _ _ h.1)]; exact h.1, by rw [hb.cell (World.block_lt_of_cell? _ _ h.2.1)]; exact h.2.1, by rw [hb.cell (World.block_lt_of_cell? _ _ h.2.2)]; exact h.2.2⟩
theorem Hol.alloc {w : World} (h : Hol w) (o : Obj) : Hol (w.alloc o) := h.below ((Below.refl _ _).alloc (Nat.le_refl _) _)
theorem Hol.drew {w : World} (h : Hol w) : Hol w.drew := h
theorem bel2 (w : World) (o o' : Obj) : Below w.heap.size w ((w.alloc o).alloc o') := ((Below.refl _ _).alloc (Nat.le_refl _) _).alloc (by simp) _
theorem allowed_any (c l : Int) (w : World) : Calls Tryz.prog 22 #[.int .i64 c, .int .i64 l] w fun e w' => e = .returned (.bool (decide (1 ≤ c ∧ c ≤ l))) ∧ w' = w := by
  by_cases h1 : 1 ≤ c
  · by_cases h2 : c ≤ l
    all_goals
      go_enter Tryz.func22, Tryz.ntmps22
      go_wp2
      go_ret
      simp [h1, h2]
  · go_enter Tryz.func22, Tryz.ntmps22
    go_wp2
    go_ret
    simp; omega
theorem share_any (c s : Int) (w : World) (h1 : -100000 ≤ c) (h2 : c ≤ 100000) (h3 : 1 ≤ s) (h4 : s ≤ 100000) : Calls Tryz.prog 23 #[.int .i64 c, .int .i64 s] w fun e w' => e = .returned (.int .i64 (Int.tdiv (c + s - 1) s)) ∧ w' = w := by
  have h0 : (s == 0) = false := by simp; omega
  go_enter Tryz.func23, Tryz.ntmps23
  go_wp2
  go_ret
  exact ⟨rfl, rfl⟩
theorem tdiv_low (x : Int) (h : x < 0) : Int.tdiv x 4097 ≤ 0 := by
  have h1 : x = -(-x) := by omega
  rw [h1, Int.neg_tdiv]
  have := Int.tdiv_nonneg (a := -x) (b := 4097) (by omega) (by decide)
  omega
theorem tdiv_up (x s : Int) (h : 0 ≤ x) : Int.tdiv x s = x / s := Int.tdiv_eq_ediv_of_nonneg h
def mapN (c : Int) : Int := if c ≤ 4097 then 1 else (c + 4096) / 4097
theorem mapSize_any (c : Int) (w : World) (hh : Hol w) (h1 : -70000 ≤ c) (h2 : c ≤ 70000) : Calls Tryz.prog 24 #[.int .i64 c] w fun e w' => e = .returned (.int .i64 (mapN c)) ∧ w' = w := by
  obtain ⟨c0, c1, c2⟩ := hh
  obtain ⟨x, HX⟩ : ∃ x, Hid (Int.tdiv (c + 4097 - 1) 4097 = x) := ⟨_, rfl⟩
  have HB : Hid (mapN c = if 1 < x then x else 1) := by
    show _ = _
    rw [← HX.out]
    unfold mapN
    by_cases hc : 0 ≤ c + 4097 - 1
    · rw [tdiv_up _ _ hc]
      split <;> split <;> omega
    · have := tdiv_low (c + 4097 - 1) (by omega)
      rw [if_pos (by omega), if_neg (by omega)]
  generalize mapN c = y at *
  go_enter Tryz.func24, Tryz.ntmps24
  go_wp2_with (go_at_call 23; refine (share_any _ _ _ (by omega) (by omega) (by omega) (by omega)).mono ?_; rintro e w' ⟨rfl, rfl⟩; rw [HX.out])
  all_goals go_ret
  · exact ⟨retI (by rw [HB.out, if_pos (by assumption)]), rfl⟩
  · exact ⟨retI (by rw [HB.out, if_neg (by omega)]), rfl⟩
/-- The numbers of a plan. -/
structure Pl where
  bl : Int
  ino : Int
  im : Int
  bm : Int
  tb : Int
  da : Int
  dc : Int
def Pl.v (p : Pl) : Value := .agg #[.int .i64 p.bl, .int .i64 p.ino, .int .i64 p.im, .int .i64 p.bm, .int .i64 p.tb, .int .i64 p.da, .int .i64 p.dc]
def z7 : Pl := ⟨0, 0, 0, 0, 0, 0, 0⟩
set_option maxRecDepth 100000 in
set_option maxHeartbeats 1000000 in
theorem make_in (n i T m : Int) (w : World) (hh : Hol w) (h1 : 1 ≤ n) (h2 : n ≤ 65536) (h3 : 1 ≤ i) (h4 : i ≤ 4096) (HT : Hid (Int.tdiv (i + 8 - 1) 8 = T)) (HM : Hid (mapN (n - 247 - T) = m)) (hT1 : 1 ≤ T) (hT2 : T ≤ 512) (hm1 : 1 ≤ m) (hm2 : m ≤ 20) (R : Value) (HR : Hid (R = if n - (247 + m + T) < 1 then .tuple #[z7.v, .int .i64 3] else .tuple #[Pl.v ⟨n, i, 246, 247, 247 + m, 247 + m + T, n - (247 + m + T)⟩, .int .i64 0])) :
    Calls Tryz.prog 9 #[.int .i64 n, .int .i64 i] w fun e w' => e = .returned R ∧ Below w.heap.size w w' := by
  have e1 : decide (1 ≤ n ∧ n ≤ 65536) = true := by simp [h1, h2]
  have e2 : decide (1 ≤ i ∧ i ≤ 4096) = true := by simp [h3, h4]
  have hz : 0 < w.heap.size := World.block_lt_of_cell? _ _ hh.1
  have hz1 : ¬ (w.heap.size = 0) := by omega
  have hq := hh
  obtain ⟨c0, c1, c2⟩ := hq
  have HX : Hid (Int.tdiv (i + 4096 - 1) 4096 = 1) := by show _ = _; rw [tdiv_up _ _ (by omega)]; omega
  have x1 : IntKind.i64.wrap (n - 247) = n - 247 := by rw [IntKind.wrap_i64]; omega
  have x2 : IntKind.i64.wrap (n - 247 - T) = n - 247 - T := by rw [IntKind.wrap_i64]; omega
  have x3 : IntKind.i64.wrap (247 + m) = 247 + m := by rw [IntKind.wrap_i64]; omega
  have x4 : IntKind.i64.wrap 247 = 247 := by decide
  have K20 : Hid (∀ w', Hol w' → Calls Tryz.prog 24 #[.int .i64 (n - 247 - T)] w' fun e w2 => e = .returned (.int .i64 m) ∧ w2 = w') := fun w' h => by
    have := mapSize_any (n - 247 - T) w' h (by omega) (by omega)
    rw [HM.out] at this
    exact this
  go_enter Tryz.func9, Tryz.ntmps9
  go_wp2_with (go_at_call 22; refine (allowed_any _ _ _).mono ?_; rintro e w' ⟨rfl, rfl⟩; first | rw [e1] | rw [e2])
  go_region_with (go_at_call 23; refine (share_any _ _ _ (by omega) (by omega) (by omega) (by omega)).mono ?_; rintro e w' ⟨rfl, rfl⟩; rw [HX.out])
  all_goals
    go_wp2_with (go_at_call 23; refine (share_any _ _ _ (by omega) (by omega) (by omega) (by omega)).mono ?_; rintro e w' ⟨rfl, rfl⟩; rw [HT.out])
    go_region_with (go_at_call 24; refine (K20.out _ (by repeat' first | exact hh | apply Hol.alloc | apply Hol.drew)).mono ?_; rintro e w' ⟨rfl, rfl⟩)
  all_goals go_wp2
  all_goals
    first
    | (have h : n - (247 + m + T) < 1 := by assumption
       refine bodyPost_ret (v := .tuple #[z7.v, .int .i64 3]) ?_ rfl ⟨by rw [HR.out, if_pos h], ?_⟩)
    | (have h : ¬ (n - (247 + m + T) < 1) := by omega
       refine bodyPost_ret (v := .tuple #[Pl.v ⟨n, i, 246, 247, 247 + m, 247 + m + T, n - (247 + m + T)⟩, .int .i64 0]) ?_ rfl ⟨by rw [HR.out, if_neg h], ?_⟩)
    · (rw [results_cell_tmp rfl]; simp only [Pl.v, z7]; go_simp)
    · (repeat' (first | exact Below.refl _ _ | refine Below.drew ?_ | refine Below.alloc ?_ (by simp) _))
/-- How many blocks the table of inodes has. -/
def itabN (i : Int) : Int := (i + 7) / 8
abbrev imkOk (n i : Int) : Prop := 1 ≤ n ∧ n ≤ 65536 ∧ 1 ≤ i ∧ i ≤ 4096
def idataN (n i : Int) : Int := 247 + mapN (n - 247 - itabN i) + itabN i
def imkE (n i : Int) : Int := if imkOk n i then (if n - idataN n i < 1 then 3 else 0) else 1
def imkP (n i : Int) : Pl := if imkE n i = 0 then ⟨n, i, 246, 247, 247 + mapN (n - 247 - itabN i), idataN n i, n - idataN n i⟩ else z7
theorem mapN_bd (c : Int) (h : c ≤ 70000) : 1 ≤ mapN c ∧ mapN c ≤ 20 := by unfold mapN; split <;> omega
theorem itabN_bd (i : Int) (h1 : 1 ≤ i) (h2 : i ≤ 4096) : 1 ≤ itabN i ∧ itabN i ≤ 512 := by unfold itabN; omega
set_option maxRecDepth 100000 in
theorem make_any (n i : Int) (w : World) (hh : Hol w) :
    Calls Tryz.prog 9 #[.int .i64 n, .int .i64 i] w fun e w' => e = .returned (.tuple #[(imkP n i).v, .int .i64 (imkE n i)]) ∧ Below w.heap.size w w' := by
  by_cases ho : imkOk n i
  · obtain ⟨h1, h2, h3, h4⟩ := ho
    obtain ⟨t1, t2⟩ := itabN_bd i h3 h4
    obtain ⟨m1, m2⟩ := mapN_bd (n - 247 - itabN i) (by omega)
    refine (make_in n i (itabN i) (mapN (n - 247 - itabN i)) w hh h1 h2 h3 h4 (by show _ = _; rw [tdiv_up _ _ (by omega)]; unfold itabN; omega) rfl t1 t2 m1 m2 _ rfl).mono ?_
    rintro e w' ⟨rfl, hb⟩
    refine ⟨?_, hb⟩
    have e0 : imkE n i = if n - (247 + mapN (n - 247 - itabN i) + itabN i) < 1 then 3 else 0 := by unfold imkE; rw [if_pos ⟨h1, h2, h3, h4⟩]; rfl
    split
    · next hlt => rw [if_pos hlt] at e0; rw [imkP, e0]; rfl
    · next hlt => rw [if_neg hlt] at e0; rw [imkP, e0]; rfl
  · have e0 : imkE n i = 1 := by unfold imkE; rw [if_neg ho]
    have e3 : imkP n i = z7 := by unfold imkP; rw [e0]; rfl
    rw [e0, e3]
    by_cases hn : 1 ≤ n ∧ n ≤ 65536
    · have e1 : decide (1 ≤ n ∧ n ≤ 65536) = true := by simp [hn]
      have e2 : decide (1 ≤ i ∧ i ≤ 4096) = false := by simp only [decide_eq_false_iff_not]; intro c; exact ho ⟨hn.1, hn.2, c.1, c.2⟩
      clear ho hn e0 e3
      go_enter Tryz.func9, Tryz.ntmps9
      go_wp2_with (go_at_call 22; refine (allowed_any _ _ _).mono ?_; rintro e w' ⟨rfl, rfl⟩; first | rw [e1] | rw [e2])
      refine bodyPost_ret (v := .tuple #[z7.v, .int .i64 1]) ?_ rfl ⟨rfl, ?_⟩
      · (rw [results_cell_tmp rfl]; simp only [Pl.v, z7]; go_simp)
      · (repeat' (first | exact Below.refl _ _ | refine Below.drew ?_ | refine Below.alloc ?_ (by simp) _))
    · have e1 : decide (1 ≤ n ∧ n ≤ 65536) = false := by simp only [decide_eq_false_iff_not]; exact hn
      clear ho hn e0 e3
      go_enter Tryz.func9, Tryz.ntmps9
      go_wp2_with (go_at_call 22; refine (allowed_any _ _ _).mono ?_; rintro e w' ⟨rfl, rfl⟩; rw [e1])
      refine bodyPost_ret (v := .tuple #[z7.v, .int .i64 1]) ?_ rfl ⟨rfl, ?_⟩
      · (rw [results_cell_tmp rfl]; simp only [Pl.v, z7]; go_simp)
      · (repeat' (first | exact Below.refl _ _ | refine Below.drew ?_ | refine Below.alloc ?_ (by simp) _))
end Go.Proofs.YtpjeidihcjljnaaGreatDoor
