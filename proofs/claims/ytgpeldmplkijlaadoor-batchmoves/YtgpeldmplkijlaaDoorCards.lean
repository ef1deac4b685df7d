/-
  DERIVED. GIVEN WITH THE SEED: THE CARDS: each row of YtgpeldmplkijlaaDoorRows.lean that lists a variable, with what it lists TIED to the program's text (the seventh form; the later family's looks); each row that meets fmt, with fmt's text TOLD by the authors' own Lean function (tested against real Go, not proved from fmt's source: count such statements apart). THE CARD IS WHAT COUNTS. Prove the row's statement (the work); the ties are given (YtgpeldmplkijlaaDoorTie.lean); close each card by the builder's one call (the guide's Derived/Test/ToyasCard.lean, 'card_holds'). Laid BY PROGRAM, IN A SANDBOX (cutbox-door.mjs). By AI agents, Wed Nov 11 2026. No macro, syntax, notation, axiom, sorry.
-/
import Derived.Test.YtgpeldmplkijlaaDoorRows
import GoSem.ClaimSeven
namespace Go.Proofs.YtgpeldmplkijlaaDoor
namespace Rows

/-- THE TIED CARD OF 'bollardlaw13.BatchEncodes'. -/
def batchEncodesCard : Claim7 := { stood := { row := batchEncodesRow, standIns := [], harness := (true, "8c7a82991453b7d44b1b0b8506e2d61f473f6ea017819e3ca701bcee4847bd6b"), looks := false }, kinds := [], alts := [], laidByText := true, laidKinds := [.data], laidTests := true, laidLooks := .later }
def BatchEncodesCardSaid : Prop := Claim7.holds Tryd.pinned (.plain (OpenSpec.ofChange batchEncodesSpec)) batchEncodesCard

/-- THE TIED CARD OF 'bollardlaw13.BatchDecodes'. -/
def batchDecodesCard : Claim7 := { stood := { row := batchDecodesRow, standIns := [], harness := (true, "8c7a82991453b7d44b1b0b8506e2d61f473f6ea017819e3ca701bcee4847bd6b"), looks := false }, kinds := [], alts := [], laidByText := true, laidKinds := [.data], laidTests := true, laidLooks := .later }
def BatchDecodesCardSaid : Prop := Claim7.holds Tryd.pinned (.plain (OpenSpec.ofChange batchDecodesSpec)) batchDecodesCard

/-- THE TIED CARD OF 'bollardlaw13.BatchMoves'. -/
def batchMovesCard : Claim7 := { stood := { row := batchMovesRow, standIns := [], harness := (true, "8c7a82991453b7d44b1b0b8506e2d61f473f6ea017819e3ca701bcee4847bd6b"), looks := false }, kinds := [], alts := [], laidByText := true, laidKinds := [.data], laidTests := true, laidLooks := .later }
def BatchMovesCardSaid : Prop := Claim7.holds Tryd.pinned (.plain (OpenSpec.ofChange batchMovesSpec)) batchMovesCard

/-- THE TIED CARD OF 'bollardlaw13.BatchFresh'. -/
def batchFreshCard : Claim7 := { stood := { row := batchFreshRow, standIns := [], harness := (true, "8c7a82991453b7d44b1b0b8506e2d61f473f6ea017819e3ca701bcee4847bd6b"), looks := false }, kinds := [], alts := [], laidByText := true, laidKinds := [.data], laidTests := true, laidLooks := .later }
def BatchFreshCardSaid : Prop := Claim7.holds Tryd.pinned (.plain (OpenSpec.ofChange batchFreshSpec)) batchFreshCard

/-- THE TIED CARD OF 'bollardlaw13.BatchBack'. -/
def batchBackCard : Claim7 := { stood := { row := batchBackRow, standIns := [], harness := (true, "8c7a82991453b7d44b1b0b8506e2d61f473f6ea017819e3ca701bcee4847bd6b"), looks := false }, kinds := [], alts := [], laidByText := true, laidKinds := [.data], laidTests := true, laidLooks := .later }
def BatchBackCardSaid : Prop := Claim7.holds Tryd.pinned (.plain (OpenSpec.ofChange batchBackSpec)) batchBackCard

/-- THE TIED CARD OF 'bollardlaw13.BatchFlips'. -/
def batchFlipsCard : Claim7 := { stood := { row := batchFlipsRow, standIns := [], harness := (true, "8c7a82991453b7d44b1b0b8506e2d61f473f6ea017819e3ca701bcee4847bd6b"), looks := false }, kinds := [], alts := [], laidByText := true, laidKinds := [.data], laidTests := true, laidLooks := .later }
def BatchFlipsCardSaid : Prop := Claim7.holds Tryd.pinned (.plain (OpenSpec.ofChange batchFlipsSpec)) batchFlipsCard

/-- THE TIED CARD OF 'bollardlaw13.BatchRows'. -/
def batchRowsCard : Claim7 := { stood := { row := batchRowsRow, standIns := [], harness := (true, "8c7a82991453b7d44b1b0b8506e2d61f473f6ea017819e3ca701bcee4847bd6b"), looks := false }, kinds := [], alts := [], laidByText := true, laidKinds := [.data], laidTests := true, laidLooks := .later }
def BatchRowsCardSaid : Prop := Claim7.holds Tryd.pinned (.plain (OpenSpec.ofChange batchRowsSpec)) batchRowsCard

/-- THE TIED CARD OF 'bollardlaw13.BatchCounts'. -/
def batchCountsCard : Claim7 := { stood := { row := batchCountsRow, standIns := [], harness := (true, "8c7a82991453b7d44b1b0b8506e2d61f473f6ea017819e3ca701bcee4847bd6b"), looks := false }, kinds := [], alts := [], laidByText := true, laidKinds := [.data], laidTests := true, laidLooks := .later }
def BatchCountsCardSaid : Prop := Claim7.holds Tryd.pinned (.plain (OpenSpec.ofChange batchCountsSpec)) batchCountsCard

/-- THE SECOND FORM's CARD OF 'bollardlaw13.BatchEncodes'. -/
def batchEncodesUptoCard : Claim7 := { stood := { row := batchEncodesUptoRow, standIns := [], harness := (true, "8c7a82991453b7d44b1b0b8506e2d61f473f6ea017819e3ca701bcee4847bd6b"), looks := false }, kinds := [], alts := [], laidByText := true, laidKinds := [.data], laidTests := true, laidLooks := .later }
def BatchEncodesUptoCardSaid : Prop := Claim7.holds Tryd.pinned (.plain (OpenSpec.upto batchEncodesSpec)) batchEncodesUptoCard

/-- THE SECOND FORM's CARD OF 'bollardlaw13.BatchDecodes'. -/
def batchDecodesUptoCard : Claim7 := { stood := { row := batchDecodesUptoRow, standIns := [], harness := (true, "8c7a82991453b7d44b1b0b8506e2d61f473f6ea017819e3ca701bcee4847bd6b"), looks := false }, kinds := [], alts := [], laidByText := true, laidKinds := [.data], laidTests := true, laidLooks := .later }
def BatchDecodesUptoCardSaid : Prop := Claim7.holds Tryd.pinned (.plain (OpenSpec.upto batchDecodesSpec)) batchDecodesUptoCard

/-- THE SECOND FORM's CARD OF 'bollardlaw13.BatchMoves'. -/
def batchMovesUptoCard : Claim7 := { stood := { row := batchMovesUptoRow, standIns := [], harness := (true, "8c7a82991453b7d44b1b0b8506e2d61f473f6ea017819e3ca701bcee4847bd6b"), looks := false }, kinds := [], alts := [], laidByText := true, laidKinds := [.data], laidTests := true, laidLooks := .later }
def BatchMovesUptoCardSaid : Prop := Claim7.holds Tryd.pinned (.plain (OpenSpec.upto batchMovesSpec)) batchMovesUptoCard

/-- THE SECOND FORM's CARD OF 'bollardlaw13.BatchFresh'. -/
def batchFreshUptoCard : Claim7 := { stood := { row := batchFreshUptoRow, standIns := [], harness := (true, "8c7a82991453b7d44b1b0b8506e2d61f473f6ea017819e3ca701bcee4847bd6b"), looks := false }, kinds := [], alts := [], laidByText := true, laidKinds := [.data], laidTests := true, laidLooks := .later }
def BatchFreshUptoCardSaid : Prop := Claim7.holds Tryd.pinned (.plain (OpenSpec.upto batchFreshSpec)) batchFreshUptoCard

/-- THE SECOND FORM's CARD OF 'bollardlaw13.BatchBack'. -/
def batchBackUptoCard : Claim7 := { stood := { row := batchBackUptoRow, standIns := [], harness := (true, "8c7a82991453b7d44b1b0b8506e2d61f473f6ea017819e3ca701bcee4847bd6b"), looks := false }, kinds := [], alts := [], laidByText := true, laidKinds := [.data], laidTests := true, laidLooks := .later }
def BatchBackUptoCardSaid : Prop := Claim7.holds Tryd.pinned (.plain (OpenSpec.upto batchBackSpec)) batchBackUptoCard

/-- THE SECOND FORM's CARD OF 'bollardlaw13.BatchFlips'. -/
def batchFlipsUptoCard : Claim7 := { stood := { row := batchFlipsUptoRow, standIns := [], harness := (true, "8c7a82991453b7d44b1b0b8506e2d61f473f6ea017819e3ca701bcee4847bd6b"), looks := false }, kinds := [], alts := [], laidByText := true, laidKinds := [.data], laidTests := true, laidLooks := .later }
def BatchFlipsUptoCardSaid : Prop := Claim7.holds Tryd.pinned (.plain (OpenSpec.upto batchFlipsSpec)) batchFlipsUptoCard

/-- THE SECOND FORM's CARD OF 'bollardlaw13.BatchRows'. -/
def batchRowsUptoCard : Claim7 := { stood := { row := batchRowsUptoRow, standIns := [], harness := (true, "8c7a82991453b7d44b1b0b8506e2d61f473f6ea017819e3ca701bcee4847bd6b"), looks := false }, kinds := [], alts := [], laidByText := true, laidKinds := [.data], laidTests := true, laidLooks := .later }
def BatchRowsUptoCardSaid : Prop := Claim7.holds Tryd.pinned (.plain (OpenSpec.upto batchRowsSpec)) batchRowsUptoCard

/-- THE SECOND FORM's CARD OF 'bollardlaw13.BatchCounts'. -/
def batchCountsUptoCard : Claim7 := { stood := { row := batchCountsUptoRow, standIns := [], harness := (true, "8c7a82991453b7d44b1b0b8506e2d61f473f6ea017819e3ca701bcee4847bd6b"), looks := false }, kinds := [], alts := [], laidByText := true, laidKinds := [.data], laidTests := true, laidLooks := .later }
def BatchCountsUptoCardSaid : Prop := Claim7.holds Tryd.pinned (.plain (OpenSpec.upto batchCountsSpec)) batchCountsUptoCard
end Rows
end Go.Proofs.YtgpeldmplkijlaaDoor
