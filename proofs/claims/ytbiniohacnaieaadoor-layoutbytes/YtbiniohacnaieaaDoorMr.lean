/- The document's own Make; awake. -/
import Derived.Test.YtbiniohacnaieaaDoorMk
namespace Go.Proofs.YtbiniohacnaieaaDoor
set_option linter.unusedSimpArgs false
set_option linter.unusedVariables false
open Go.RowKit
theorem mk_awake : mkE 1000 64 = 0 ∧ mkP 1000 64 = ⟨1000, 64, 246, 247, 248, 256, 744⟩ := ⟨by decide, rfl⟩
theorem awake_any (w : World) (hh : Hol w) : Calls Tryd.prog 11 #[] w fun e w' => e = .returned (.bool true) ∧ Below w.heap.size w w' := by
  obtain ⟨e1, e2⟩ := mk_awake
  have K := make_any 1000 64 w hh
  rw [e1, e2] at K
  clear e1 e2
  have HK : Hid _ := K
  clear K
  go_enter Tryd.func11, Tryd.ntmps11
  go_wp2_with (go_at_call 9; refine (Calls.mono HK.out ?_); rintro e w' ⟨rfl, hb⟩; simp only [Pl.v])
  go_ret
  exact ⟨rfl, hb.alloc hb.size _⟩
set_option maxRecDepth 100000 in
set_option maxHeartbeats 1000000 in
theorem rmake_in (n i T m : Int) (w : World) (h1 : 1 ≤ n) (h2 : n ≤ 65536) (h3 : 1 ≤ i) (h4 : i ≤ 4096) (HT : Hid (Int.tdiv (i + 7) 8 = T)) (HM : Hid (mapN (n - 247 - T) = m)) (hT1 : 1 ≤ T) (hT2 : T ≤ 512) (hm1 : 1 ≤ m) (hm2 : m ≤ 20) (R : Value) (HR : Hid (R = if n - (247 + m + T) < 1 then .tuple #[z7.v, .int .i64 3] else .tuple #[Pl.v ⟨n, i, 246, 247, 247 + m, 247 + m + T, n - (247 + m + T)⟩, .int .i64 0])) :
    Calls Tryd.prog 10 #[.int .i64 n, .int .i64 i] w fun e w' => e = .returned R ∧ Below w.heap.size w w' := by
  have g1 : ¬ n < 1 := by omega
  have g2 : ¬ 65536 < n := by omega
  have g3 : ¬ i < 1 := by omega
  have g4 : ¬ 4096 < i := by omega
  have q1 : Int.tdiv (i + 4095) 4096 = 1 := by rw [tdiv_up _ _ (by omega)]; omega
  have q2 := HT.out
  go_enter Tryd.func10, Tryd.ntmps10
  go_wp2
  go_loop [8] (fun v => ∃ k : Int, 1 ≤ k ∧ k ≤ m ∧ v = .int .i64 k) (fun v => (m - intOf v).toNat)
  case atStart => exact ⟨1, by omega, hm1, rfl⟩
  case round =>
    obtain ⟨k, k1, k2, rfl⟩ := hrel
    have hm := HM.out
    unfold mapN at hm
    by_cases hlt : 4096 * k < n - 247 - k - T
    · have k3 : k + 1 ≤ m := by split at hm <;> omega
      clear hm
      go_wp2
      exact ⟨⟨k + 1, by omega, k3, by go_num⟩, by simp [intOf]; omega⟩
    · obtain rfl : k = m := by split at hm <;> omega
      clear hm
      go_wp2
      all_goals
        first
        | (have h : n - (247 + k + T) < 1 := by assumption
           refine bodyPost_ret (v := .tuple #[z7.v, .int .i64 3]) ?_ rfl ⟨by rw [HR.out, if_pos h], ?_⟩)
        | (have h : ¬ (n - (247 + k + T) < 1) := by omega
           refine bodyPost_ret (v := .tuple #[Pl.v ⟨n, i, 246, 247, 247 + k, 247 + k + T, n - (247 + k + T)⟩, .int .i64 0]) ?_ rfl ⟨by rw [HR.out, if_neg h], ?_⟩)
        · (rw [results_cell_tmp rfl]; simp only [Pl.v, z7]; go_simp)
        · (repeat' (first | exact Below.refl _ _ | refine Below.drew ?_ | refine Below.alloc ?_ (by simp) _))
theorem rmake_no (n i : Int) (w : World) (ho : ¬ mkOk n i) :
    Calls Tryd.prog 10 #[.int .i64 n, .int .i64 i] w fun e w' => e = .returned (.tuple #[z7.v, .int .i64 1]) ∧ Below w.heap.size w w' := by
  have HO : Hid (¬ mkOk n i) := ho
  clear ho
  by_cases h1 : n < 1
  · go_enter Tryd.func10, Tryd.ntmps10
    go_wp2
    refine bodyPost_ret (v := .tuple #[z7.v, .int .i64 1]) ?_ rfl ⟨rfl, ?_⟩
    · (rw [results_cell_tmp rfl]; simp only [Pl.v, z7]; go_simp)
    · (repeat' (first | exact Below.refl _ _ | refine Below.drew ?_ | refine Below.alloc ?_ (by simp) _))
  by_cases h2 : 65536 < n
  · go_enter Tryd.func10, Tryd.ntmps10
    go_wp2
    refine bodyPost_ret (v := .tuple #[z7.v, .int .i64 1]) ?_ rfl ⟨rfl, ?_⟩
    · (rw [results_cell_tmp rfl]; simp only [Pl.v, z7]; go_simp)
    · (repeat' (first | exact Below.refl _ _ | refine Below.drew ?_ | refine Below.alloc ?_ (by simp) _))
  by_cases h3 : i < 1
  · go_enter Tryd.func10, Tryd.ntmps10
    go_wp2
    refine bodyPost_ret (v := .tuple #[z7.v, .int .i64 1]) ?_ rfl ⟨rfl, ?_⟩
    · (rw [results_cell_tmp rfl]; simp only [Pl.v, z7]; go_simp)
    · (repeat' (first | exact Below.refl _ _ | refine Below.drew ?_ | refine Below.alloc ?_ (by simp) _))
  have h4 : 4096 < i := by
    apply Classical.byContradiction
    intro c
    exact HO.out ⟨by omega, by omega, by omega, by omega⟩
  go_enter Tryd.func10, Tryd.ntmps10
  go_wp2
  refine bodyPost_ret (v := .tuple #[z7.v, .int .i64 1]) ?_ rfl ⟨rfl, ?_⟩
  · (rw [results_cell_tmp rfl]; simp only [Pl.v, z7]; go_simp)
  · (repeat' (first | exact Below.refl _ _ | refine Below.drew ?_ | refine Below.alloc ?_ (by simp) _))
theorem rmake_any (n i : Int) (w : World) :
    Calls Tryd.prog 10 #[.int .i64 n, .int .i64 i] w fun e w' => e = .returned (.tuple #[(mkP n i).v, .int .i64 (mkE n i)]) ∧ Below w.heap.size w w' := by
  by_cases ho : mkOk n i
  · obtain ⟨h1, h2, h3, h4⟩ := ho
    obtain ⟨t1, t2⟩ := tabN_bd i h3 h4
    obtain ⟨m1, m2⟩ := mapN_bd (n - 247 - tabN i) (by omega)
    refine (rmake_in n i (tabN i) (mapN (n - 247 - tabN i)) w h1 h2 h3 h4 (by show _ = _; rw [tdiv_up _ _ (by omega)]; unfold tabN; omega) rfl t1 t2 m1 m2 _ rfl).mono ?_
    rintro e w' ⟨rfl, hb⟩
    refine ⟨?_, hb⟩
    have e0 : mkE n i = if n - (247 + mapN (n - 247 - tabN i) + tabN i) < 1 then 3 else 0 := by unfold mkE; rw [if_pos ⟨h1, h2, h3, h4⟩]; rfl
    split
    · next hlt => rw [if_pos hlt] at e0; rw [mkP, e0]; rfl
    · next hlt => rw [if_neg hlt] at e0; rw [mkP, e0]; rfl
  · have e0 : mkE n i = 1 := by unfold mkE; rw [if_neg ho]
    have e3 : mkP n i = z7 := by unfold mkP; rw [e0]; rfl
    rw [e0, e3]
    exact rmake_no n i w ho
/-- A plan lies in a box. -/
structure BoxAt (w : World) (g : Nat) (p : Pl) : Prop where
  c0 : w.cell? ⟨g, 0, none⟩ = some (.int .i64 p.bl)
  c1 : w.cell? ⟨g, 1, none⟩ = some (.int .i64 p.ino)
  c2 : w.cell? ⟨g, 2, none⟩ = some (.int .i64 p.im)
  c3 : w.cell? ⟨g, 3, none⟩ = some (.int .i64 p.bm)
  c4 : w.cell? ⟨g, 4, none⟩ = some (.int .i64 p.tb)
  c5 : w.cell? ⟨g, 5, none⟩ = some (.int .i64 p.da)
  c6 : w.cell? ⟨g, 6, none⟩ = some (.int .i64 p.dc)
theorem BoxAt.below {w w' : World} {g : Nat} {p : Pl} (h : BoxAt w g p) (hb : Below w.heap.size w w') : BoxAt w' g p := by
  have e : ∀ i v, w.cell? ⟨g, i, none⟩ = some v → w'.cell? ⟨g, i, none⟩ = some v := fun i v hv => by
    rw [hb.cell (World.block_lt_of_cell? _ _ hv)]; exact hv
  exact ⟨e _ _ h.c0, e _ _ h.c1, e _ _ h.c2, e _ _ h.c3, e _ _ h.c4, e _ _ h.c5, e _ _ h.c6⟩
theorem box_new (w : World) (p : Pl) : BoxAt (w.alloc (.cells #[.int .i64 p.bl, .int .i64 p.ino, .int .i64 p.im, .int .i64 p.bm, .int .i64 p.tb, .int .i64 p.da, .int .i64 p.dc] 23)) w.heap.size p := by
  constructor <;> rw [cell_of_row _ w.heap.size _ _ 23 (0, 0) (heap_alloc_new w _)] <;> rfl
theorem BoxAt.lt {w : World} {g : Nat} {p : Pl} (h : BoxAt w g p) : g < w.heap.size := World.block_lt_of_cell? _ _ h.c0
theorem BoxAt.drewN {w : World} {g : Nat} {p : Pl} (h : BoxAt w g p) (n : Nat) : BoxAt (w.drewN n) g p := ⟨h.c0, h.c1, h.c2, h.c3, h.c4, h.c5, h.c6⟩
theorem eqI (x : Int) : (x == x) = true := by simp
end Go.Proofs.YtbiniohacnaieaaDoor
