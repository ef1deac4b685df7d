/-
  DERIVED. GIVEN WITH THE SEED: THE CARDS: each row of YtbiniohacnaieaaDoorRows.lean that lists a variable, with what it lists TIED to the program's text (the seventh form; the later family's looks); each row that meets fmt, with fmt's text TOLD by the authors' own Lean function (tested against real Go, not proved from fmt's source: count such statements apart). THE CARD IS WHAT COUNTS. Prove the row's statement (the work); the ties are given (YtbiniohacnaieaaDoorTie.lean); close each card by the builder's one call (the guide's Derived/Test/ToyasCard.lean, 'card_holds'). Laid BY PROGRAM, IN A SANDBOX (cutbox-door.mjs). By AI agents, Wed Nov 11 2026. No macro, syntax, notation, axiom, sorry.
-/
import Derived.Test.YtbiniohacnaieaaDoorRows
import GoSem.ClaimSeven
namespace Go.Proofs.YtbiniohacnaieaaDoor
namespace Rows

/-- THE TIED CARD OF 'bollardlaw6.LayoutPlans'. -/
def layoutPlansCard : Claim7 := { stood := { row := layoutPlansRow, standIns := [], harness := (true, "550a969dfb1b5028441b418b23372a2c5e979f89ff966b39a75d15f497d55032"), looks := false }, kinds := [], alts := [], laidByText := true, laidKinds := [.data], laidTests := true, laidLooks := .later }
def LayoutPlansCardSaid : Prop := Claim7.holds Tryd.pinned (.plain (OpenSpec.ofChange layoutPlansSpec)) layoutPlansCard

/-- THE TIED CARD OF 'bollardlaw6.LayoutBytes'. -/
def layoutBytesCard : Claim7 := { stood := { row := layoutBytesRow, standIns := [], harness := (true, "550a969dfb1b5028441b418b23372a2c5e979f89ff966b39a75d15f497d55032"), looks := false }, kinds := [], alts := [], laidByText := true, laidKinds := [.data, .data], laidTests := true, laidLooks := .later }
def LayoutBytesCardSaid : Prop := Claim7.holds Tryd.pinned (.plain (OpenSpec.ofChange layoutBytesSpec)) layoutBytesCard

/-- THE TIED CARD OF 'bollardlaw6.LayoutBack'. -/
def layoutBackCard : Claim7 := { stood := { row := layoutBackRow, standIns := [], harness := (true, "550a969dfb1b5028441b418b23372a2c5e979f89ff966b39a75d15f497d55032"), looks := false }, kinds := [], alts := [], laidByText := true, laidKinds := [.data, .data], laidTests := true, laidLooks := .later }
def LayoutBackCardSaid : Prop := Claim7.holds Tryd.pinned (.plain (OpenSpec.ofChange layoutBackSpec)) layoutBackCard

/-- THE TIED CARD OF 'bollardlaw6.LayoutAreas'. -/
def layoutAreasCard : Claim7 := { stood := { row := layoutAreasRow, standIns := [], harness := (true, "550a969dfb1b5028441b418b23372a2c5e979f89ff966b39a75d15f497d55032"), looks := false }, kinds := [], alts := [], laidByText := true, laidKinds := [.data], laidTests := true, laidLooks := .later }
def LayoutAreasCardSaid : Prop := Claim7.holds Tryd.pinned (.plain (OpenSpec.ofChange layoutAreasSpec)) layoutAreasCard

/-- THE TIED CARD OF 'bollardlaw6.LayoutGrows'. -/
def layoutGrowsCard : Claim7 := { stood := { row := layoutGrowsRow, standIns := [], harness := (true, "550a969dfb1b5028441b418b23372a2c5e979f89ff966b39a75d15f497d55032"), looks := false }, kinds := [], alts := [], laidByText := true, laidKinds := [.data], laidTests := true, laidLooks := .later }
def LayoutGrowsCardSaid : Prop := Claim7.holds Tryd.pinned (.plain (OpenSpec.ofChange layoutGrowsSpec)) layoutGrowsCard

/-- THE TIED CARD OF 'bollardlaw6.LayoutCuts'. -/
def layoutCutsCard : Claim7 := { stood := { row := layoutCutsRow, standIns := [], harness := (true, "550a969dfb1b5028441b418b23372a2c5e979f89ff966b39a75d15f497d55032"), looks := false }, kinds := [], alts := [], laidByText := true, laidKinds := [.data, .data], laidTests := true, laidLooks := .later }
def LayoutCutsCardSaid : Prop := Claim7.holds Tryd.pinned (.plain (OpenSpec.ofChange layoutCutsSpec)) layoutCutsCard

/-- THE SECOND FORM's CARD OF 'bollardlaw6.LayoutPlans'. -/
def layoutPlansUptoCard : Claim7 := { stood := { row := layoutPlansUptoRow, standIns := [], harness := (true, "550a969dfb1b5028441b418b23372a2c5e979f89ff966b39a75d15f497d55032"), looks := false }, kinds := [], alts := [], laidByText := true, laidKinds := [.data], laidTests := true, laidLooks := .later }
def LayoutPlansUptoCardSaid : Prop := Claim7.holds Tryd.pinned (.plain (OpenSpec.upto layoutPlansSpec)) layoutPlansUptoCard

/-- THE SECOND FORM's CARD OF 'bollardlaw6.LayoutBytes'. -/
def layoutBytesUptoCard : Claim7 := { stood := { row := layoutBytesUptoRow, standIns := [], harness := (true, "550a969dfb1b5028441b418b23372a2c5e979f89ff966b39a75d15f497d55032"), looks := false }, kinds := [], alts := [], laidByText := true, laidKinds := [.data, .data], laidTests := true, laidLooks := .later }
def LayoutBytesUptoCardSaid : Prop := Claim7.holds Tryd.pinned (.plain (OpenSpec.upto layoutBytesSpec)) layoutBytesUptoCard

/-- THE SECOND FORM's CARD OF 'bollardlaw6.LayoutBack'. -/
def layoutBackUptoCard : Claim7 := { stood := { row := layoutBackUptoRow, standIns := [], harness := (true, "550a969dfb1b5028441b418b23372a2c5e979f89ff966b39a75d15f497d55032"), looks := false }, kinds := [], alts := [], laidByText := true, laidKinds := [.data, .data], laidTests := true, laidLooks := .later }
def LayoutBackUptoCardSaid : Prop := Claim7.holds Tryd.pinned (.plain (OpenSpec.upto layoutBackSpec)) layoutBackUptoCard

/-- THE SECOND FORM's CARD OF 'bollardlaw6.LayoutAreas'. -/
def layoutAreasUptoCard : Claim7 := { stood := { row := layoutAreasUptoRow, standIns := [], harness := (true, "550a969dfb1b5028441b418b23372a2c5e979f89ff966b39a75d15f497d55032"), looks := false }, kinds := [], alts := [], laidByText := true, laidKinds := [.data], laidTests := true, laidLooks := .later }
def LayoutAreasUptoCardSaid : Prop := Claim7.holds Tryd.pinned (.plain (OpenSpec.upto layoutAreasSpec)) layoutAreasUptoCard

/-- THE SECOND FORM's CARD OF 'bollardlaw6.LayoutGrows'. -/
def layoutGrowsUptoCard : Claim7 := { stood := { row := layoutGrowsUptoRow, standIns := [], harness := (true, "550a969dfb1b5028441b418b23372a2c5e979f89ff966b39a75d15f497d55032"), looks := false }, kinds := [], alts := [], laidByText := true, laidKinds := [.data], laidTests := true, laidLooks := .later }
def LayoutGrowsUptoCardSaid : Prop := Claim7.holds Tryd.pinned (.plain (OpenSpec.upto layoutGrowsSpec)) layoutGrowsUptoCard

/-- THE SECOND FORM's CARD OF 'bollardlaw6.LayoutCuts'. -/
def layoutCutsUptoCard : Claim7 := { stood := { row := layoutCutsUptoRow, standIns := [], harness := (true, "550a969dfb1b5028441b418b23372a2c5e979f89ff966b39a75d15f497d55032"), looks := false }, kinds := [], alts := [], laidByText := true, laidKinds := [.data, .data], laidTests := true, laidLooks := .later }
def LayoutCutsUptoCardSaid : Prop := Claim7.holds Tryd.pinned (.plain (OpenSpec.upto layoutCutsSpec)) layoutCutsUptoCard
end Rows
end Go.Proofs.YtbiniohacnaieaaDoor
