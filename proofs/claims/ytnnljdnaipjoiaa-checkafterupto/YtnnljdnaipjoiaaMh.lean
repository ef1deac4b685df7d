/- The document's Saw: what it tells and leaves. -/
import Derived.Test.YtnnljdnaipjoiaaMa
import Derived.Test.YtnnljdnaipjoiaaSn
namespace Go.Proofs.Ytnnljdnaipjoiaa
set_option linter.unusedSimpArgs false
set_option linter.unusedVariables false
open Go.RowKit
theorem recKs_len (q : PK) (ss : List Bs) : (recKs q (bsOf ss)).length = sumR ss := by
  unfold recKs bsOf sumR
  rw [List.length_flatten, List.map_map, List.map_map]
  congr 1
  apply List.map_congr_left
  intro s _
  simp [recK]
theorem batKs_len (q : PK) (ss : List Bs) : (batKs q (bsOf ss)).length ≤ ss.length := by
  induction ss with
  | nil => simp [batKs, bsOf]
  | cons s r ih =>
    have e : batKs q (bsOf (s :: r)) = batK q s.b ++ batKs q (bsOf r) := rfl
    have h1 : (batK q s.b).length ≤ 1 := by unfold batK; split <;> simp
    rw [e, List.length_append, List.length_cons]
    omega
theorem msaw_any {B p N : Nat} {S : LS} (tp : ByteArray) (pt st nx fr : Int) (a : Option Addr) (cap : Nat) (ss : List Bs) (w : World) (hc : CkS B p N S w) (hBw : B ≤ w.heap.size) (hi : ∀ y, MKeep B w y → BIn y a ss) (hN : N + (1 + ss.length + sumR ss) ≤ 1000000) :
    Calls Try.prog 12 #[.pointer (some ⟨p, 0, none⟩), .string tp, .int .i64 pt, .int .i64 st, .int .i64 nx, .int .i64 fr, .slice a ss.length cap] w fun e z => MSaw B p (N + (1 + ss.length + sumR ss)) w (saw S (tp, pt) st nx fr (bsOf ss)) e z := by
  obtain ⟨vF, vS, vP, FL, SL, PL, h, r1, r2, r3⟩ := hc
  have e1 := recKs_len (tp, pt) ss
  have e2 := batKs_len (tp, pt) ss
  refine msaw_walk B p S tp pt st nx fr a cap ss w vF vS vP FL SL PL h hBw hi (by omega) (by omega) (by omega) (fun e z => MSaw B p (N + (1 + ss.length + sumR ss)) w (saw S (tp, pt) st nx fr (bsOf ss)) e z) ?_ ?_ ?_ ?_ ?_
  · intro hf y hb
    have e : saw S (tp, pt) st nx fr (bsOf ss) = (1, S) := by unfold saw; rw [if_pos hf]
    rw [e]
    exact ⟨rfl, ⟨vF, vS, vP, FL, SL, PL, h.below hb, by omega, by omega, by omega⟩, MKeep.of_below hb⟩
  · intro hf hp y hb
    have e : saw S (tp, pt) st nx fr (bsOf ss) = (2, S) := by unfold saw; rw [if_neg (by rw [hf]; decide), if_pos hp]
    rw [e]
    exact ⟨rfl, ⟨vF, vS, vP, FL, SL, PL, h.below hb, by omega, by omega, by omega⟩, MKeep.of_below hb⟩
  · intro hf hp hr y hk hm
    have e : saw S (tp, pt) st nx fr (bsOf ss) = (3, S) := by unfold saw; rw [if_neg (by rw [hf]; decide), if_neg (by rw [hp]; decide), hr]
    rw [e]
    exact ⟨rfl, ⟨vF, vS, vP, FL, SL, PL, hk, by omega, by omega, by omega⟩, hm⟩
  · intro hf hp F hr hb y hk hm
    have e : saw S (tp, pt) st nx fr (bsOf ss) = (4, S) := by
      unfold saw
      rw [if_neg (by rw [hf]; decide), if_neg (by rw [hp]; decide), hr]
      simp only
      rw [hb]
    rw [e]
    exact ⟨rfl, ⟨vF, vS, vP, FL, SL, PL, hk, by omega, by omega, by omega⟩, hm⟩
  · intro hf hp F G hr hb y vf vs vp L M Q hk hm l1 l2 l3
    have e : saw S (tp, pt) st nx fr (bsOf ss) = (0, ⟨fun x => if x = (tp, pt) then some (st, nx) else S.bn x, fun x => (F x).or (S.rc x), fun x => (G x).or (S.bs x)⟩) := by
      unfold saw
      rw [if_neg (by rw [hf]; decide), if_neg (by rw [hp]; decide), hr]
      simp only
      rw [hb]
    rw [e]
    exact ⟨rfl, ⟨vf, vs, vp, L, M, Q, hk, by omega, by omega, by omega⟩, hm⟩
end Go.Proofs.Ytnnljdnaipjoiaa
