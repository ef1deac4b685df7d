/- A crash, as the laws use it. -/
import Derived.Test.YtohncckmennfbaaDoorUse
import Derived.Test.YtohncckmennfbaaDoorCw
namespace Go.Proofs.YtohncckmennfbaaDoor
set_option linter.unusedSimpArgs false
set_option linter.unusedVariables false
open Go.RowKit Go.MapKept
theorem crashD {w : World} {p : Nat} {F : List Nat} {d : Dv} (h : Dev w p F d) (a : Option Addr) (l : List Int) (cap : Nat) (hl : RowI w a l) (hll : l.length ≤ 9223372036854775807) :
    Calls Tryd.prog 24 #[.pointer (some ⟨p, 0, none⟩), .slice a l.length cap] w fun e w' => ∃ c F', e = .returned (.pointer (some ⟨c, 0, none⟩)) ∧ Dev w' c F' (d.crash l) ∧ (∀ x ∈ F', w.heap.size ≤ x) ∧ Below w.heap.size w w' := by
  obtain ⟨fb, pb, tb, rfl, h⟩ := h
  refine (crash_any p fb pb tb d a l cap w h hl hll).mono ?_
  rintro e w' ⟨c, cf, cp, ct, rfl, hd, hf, hb⟩
  exact ⟨c, _, rfl, ⟨cf, cp, ct, rfl, hd⟩, hf, hb⟩
end Go.Proofs.YtohncckmennfbaaDoor
