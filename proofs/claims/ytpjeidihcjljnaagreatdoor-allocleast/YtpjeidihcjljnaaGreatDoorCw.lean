/- Crash: the walk. -/
import Derived.Test.YtpjeidihcjljnaaGreatDoorCr
namespace Go.Proofs.YtpjeidihcjljnaaGreatDoor
set_option linter.unusedSimpArgs false
set_option linter.unusedVariables false
open Go.RowKit Go.MapKept
open Go.ChangeMaps (setBlock)
def ints (ks : List Nat) : List Int := ks.map fun k : Nat => (k : Int)
theorem ints_len (ks : List Nat) : (ints ks).length = ks.length := by simp [ints]
theorem ints_get (ks : List Nat) (i : Nat) (h : i < ks.length) : (ints ks).getD i 0 = ((ks.getD i 0 : Nat) : Int) := by simp [ints, List.getD, h]
theorem getD_mem (ks : List Nat) (i : Nat) (h : i < ks.length) : ks.getD i 0 ∈ ks := by simp [List.getD, h]
theorem own_rowI {w : World} {B : Nat} {v : Value} {ks : List Nat} (h : w.ownsRow B 3 1 v ks.length (ks.map mkI)) (hb : ∀ k ∈ ks, k < 65536) : ∃ a cap, v = .slice a ks.length cap ∧ RowI w a (ints ks) := by
  rcases h.2 with ⟨rfl, h0⟩ | ⟨g, cap, cur, rfl, hB, hg, hle, hm, _, _⟩
  · refine ⟨none, 0, by rw [h0], ?_⟩
    intro i hi
    rw [ints_len] at hi
    omega
  · refine ⟨_, cap, rfl, ?_⟩
    intro i hi
    rw [ints_len] at hi
    refine ⟨g, 0, rfl, ?_⟩
    have e : (ks.map mkI)[i]? = some (.int .i64 ((ks.getD i 0 : Nat) : Int)) := by simp [List.getD, hi]
    have := h.cells (g := g) rfl i _ e
    have hk := hb (ks.getD i 0) (getD_mem ks i hi)
    rw [ints_get ks i hi]
    exact ⟨by simpa [Addr.add_lit] using this, by omega, by omega⟩
/-- On the way through the keys. -/
structure CwAt (w : World) (p fb pb tb : Nat) (d : Dv) (l : List Int) (ks : List Nat) (a : Option Addr) (c cf cp ct : Nat) (j : Nat) (wr : World) (B : Nat → List Nat) : Prop where
  new : DevIs wr c cf cp ct (fresh d.n B)
  at' : CrAt d l ks j B
  row : RowI wr a (ints ks)
  bel : Below w.heap.size w wr
theorem crS {w' : World} {p fb pb tb c cf cp ct b0 o0 j k : Nat} {d e : Dv} {l : List Int} (h : DevIs w' p fb pb tb d) (hc : DevIs w' c cf cp ct e) (hl : RowI w' (some ⟨b0, o0, none⟩) l) (hj : j < l.length) (hk : k < d.n) :
    w'.cell? ⟨c, 1, none⟩ = some (.map (some cf)) ∧ w'.cell? ⟨b0, o0 + j, none⟩ = some (.int .i64 (l.getD j 0)) ∧ w'.cell? ⟨p, 3, none⟩ = some (.map (some tb)) ∧
      (Instr.lookup 86 (.map (some tb)) (.int .i64 (k : Int)) false).run Tryz.prog w' = .ok (.int .i64 ((d.pend k).length : Int)) w' := by
  refine ⟨hc.c.2.1, ?_, h.c.2.2.2.1, h.lookT k hk w' rfl⟩
  obtain ⟨b, off, e, hcell, _⟩ := hl j hj
  simp only [Option.some.injEq, Addr.mk.injEq, and_true] at e
  obtain ⟨rfl, rfl⟩ := e
  exact hcell
end Go.Proofs.YtpjeidihcjljnaaGreatDoor
