/-
  DERIVED. GIVEN WITH THE SEED: THE CARDS: each row of YtaooidckmepdeaaDoorRows.lean that lists a variable, with what it lists TIED to the program's text (the seventh form; the later family's looks); each row that meets fmt, with fmt's text TOLD by the authors' own Lean function (tested against real Go, not proved from fmt's source: count such statements apart). THE CARD IS WHAT COUNTS. Prove the row's statement (the work); the ties are given (YtaooidckmepdeaaDoorTie.lean); close each card by the builder's one call (the guide's Derived/Test/ToyasCard.lean, 'card_holds'). Laid BY PROGRAM, IN A SANDBOX (cutbox-door.mjs). By AI agents, Wed Nov 11 2026. No macro, syntax, notation, axiom, sorry.
-/
import Derived.Test.YtaooidckmepdeaaDoorRows
import GoSem.ClaimSeven
namespace Go.Proofs.YtaooidckmepdeaaDoor
namespace Rows

/-- THE TIED CARD OF 'bollardlaw20.CodecRequests'. -/
def codecRequestsCard : Claim7 := { stood := { row := codecRequestsRow, standIns := [], harness := (true, "de71d07143862661563342f94da73bc2ffa5f76437523276e973d377f417f664"), looks := false }, kinds := [], alts := [], laidByText := true, laidKinds := [.data], laidTests := true, laidLooks := .later }
def CodecRequestsCardSaid : Prop := Claim7.holds Tryd.pinned (.plain (OpenSpec.ofChange codecRequestsSpec)) codecRequestsCard

/-- THE TIED CARD OF 'bollardlaw20.CodecBack'. -/
def codecBackCard : Claim7 := { stood := { row := codecBackRow, standIns := [], harness := (true, "de71d07143862661563342f94da73bc2ffa5f76437523276e973d377f417f664"), looks := false }, kinds := [], alts := [], laidByText := true, laidKinds := [.data], laidTests := true, laidLooks := .later }
def CodecBackCardSaid : Prop := Claim7.holds Tryd.pinned (.plain (OpenSpec.ofChange codecBackSpec)) codecBackCard

/-- THE TIED CARD OF 'bollardlaw20.CodecOnce'. -/
def codecOnceCard : Claim7 := { stood := { row := codecOnceRow, standIns := [], harness := (true, "de71d07143862661563342f94da73bc2ffa5f76437523276e973d377f417f664"), looks := false }, kinds := [], alts := [], laidByText := true, laidKinds := [.data], laidTests := true, laidLooks := .later }
def CodecOnceCardSaid : Prop := Claim7.holds Tryd.pinned (.plain (OpenSpec.ofChange codecOnceSpec)) codecOnceCard

/-- THE TIED CARD OF 'bollardlaw20.CodecFields'. -/
def codecFieldsCard : Claim7 := { stood := { row := codecFieldsRow, standIns := [], harness := (true, "de71d07143862661563342f94da73bc2ffa5f76437523276e973d377f417f664"), looks := false }, kinds := [], alts := [], laidByText := true, laidKinds := [.data], laidTests := true, laidLooks := .later }
def CodecFieldsCardSaid : Prop := Claim7.holds Tryd.pinned (.plain (OpenSpec.ofChange codecFieldsSpec)) codecFieldsCard

/-- THE TIED CARD OF 'bollardlaw20.CodecCuts'. -/
def codecCutsCard : Claim7 := { stood := { row := codecCutsRow, standIns := [], harness := (true, "de71d07143862661563342f94da73bc2ffa5f76437523276e973d377f417f664"), looks := false }, kinds := [], alts := [], laidByText := true, laidKinds := [.data], laidTests := true, laidLooks := .later }
def CodecCutsCardSaid : Prop := Claim7.holds Tryd.pinned (.plain (OpenSpec.ofChange codecCutsSpec)) codecCutsCard

/-- THE TIED CARD OF 'bollardlaw20.CodecIDs'. -/
def codecIDsCard : Claim7 := { stood := { row := codecIDsRow, standIns := [], harness := (true, "de71d07143862661563342f94da73bc2ffa5f76437523276e973d377f417f664"), looks := false }, kinds := [], alts := [], laidByText := true, laidKinds := [.data], laidTests := true, laidLooks := .later }
def CodecIDsCardSaid : Prop := Claim7.holds Tryd.pinned (.plain (OpenSpec.ofChange codecIDsSpec)) codecIDsCard

/-- THE SECOND FORM's CARD OF 'bollardlaw20.CodecRequests'. -/
def codecRequestsUptoCard : Claim7 := { stood := { row := codecRequestsUptoRow, standIns := [], harness := (true, "de71d07143862661563342f94da73bc2ffa5f76437523276e973d377f417f664"), looks := false }, kinds := [], alts := [], laidByText := true, laidKinds := [.data], laidTests := true, laidLooks := .later }
def CodecRequestsUptoCardSaid : Prop := Claim7.holds Tryd.pinned (.plain (OpenSpec.upto codecRequestsSpec)) codecRequestsUptoCard

/-- THE SECOND FORM's CARD OF 'bollardlaw20.CodecBack'. -/
def codecBackUptoCard : Claim7 := { stood := { row := codecBackUptoRow, standIns := [], harness := (true, "de71d07143862661563342f94da73bc2ffa5f76437523276e973d377f417f664"), looks := false }, kinds := [], alts := [], laidByText := true, laidKinds := [.data], laidTests := true, laidLooks := .later }
def CodecBackUptoCardSaid : Prop := Claim7.holds Tryd.pinned (.plain (OpenSpec.upto codecBackSpec)) codecBackUptoCard

/-- THE SECOND FORM's CARD OF 'bollardlaw20.CodecOnce'. -/
def codecOnceUptoCard : Claim7 := { stood := { row := codecOnceUptoRow, standIns := [], harness := (true, "de71d07143862661563342f94da73bc2ffa5f76437523276e973d377f417f664"), looks := false }, kinds := [], alts := [], laidByText := true, laidKinds := [.data], laidTests := true, laidLooks := .later }
def CodecOnceUptoCardSaid : Prop := Claim7.holds Tryd.pinned (.plain (OpenSpec.upto codecOnceSpec)) codecOnceUptoCard

/-- THE SECOND FORM's CARD OF 'bollardlaw20.CodecFields'. -/
def codecFieldsUptoCard : Claim7 := { stood := { row := codecFieldsUptoRow, standIns := [], harness := (true, "de71d07143862661563342f94da73bc2ffa5f76437523276e973d377f417f664"), looks := false }, kinds := [], alts := [], laidByText := true, laidKinds := [.data], laidTests := true, laidLooks := .later }
def CodecFieldsUptoCardSaid : Prop := Claim7.holds Tryd.pinned (.plain (OpenSpec.upto codecFieldsSpec)) codecFieldsUptoCard

/-- THE SECOND FORM's CARD OF 'bollardlaw20.CodecCuts'. -/
def codecCutsUptoCard : Claim7 := { stood := { row := codecCutsUptoRow, standIns := [], harness := (true, "de71d07143862661563342f94da73bc2ffa5f76437523276e973d377f417f664"), looks := false }, kinds := [], alts := [], laidByText := true, laidKinds := [.data], laidTests := true, laidLooks := .later }
def CodecCutsUptoCardSaid : Prop := Claim7.holds Tryd.pinned (.plain (OpenSpec.upto codecCutsSpec)) codecCutsUptoCard

/-- THE SECOND FORM's CARD OF 'bollardlaw20.CodecIDs'. -/
def codecIDsUptoCard : Claim7 := { stood := { row := codecIDsUptoRow, standIns := [], harness := (true, "de71d07143862661563342f94da73bc2ffa5f76437523276e973d377f417f664"), looks := false }, kinds := [], alts := [], laidByText := true, laidKinds := [.data], laidTests := true, laidLooks := .later }
def CodecIDsUptoCardSaid : Prop := Claim7.holds Tryd.pinned (.plain (OpenSpec.upto codecIDsSpec)) codecIDsUptoCard
end Rows
end Go.Proofs.YtaooidckmepdeaaDoor
