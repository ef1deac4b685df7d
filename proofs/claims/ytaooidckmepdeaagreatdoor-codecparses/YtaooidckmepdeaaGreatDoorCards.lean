/-
  DERIVED. GIVEN WITH THE SEED: THE CARDS: each row of YtaooidckmepdeaaGreatDoorRows.lean that lists a variable, with what it lists TIED to the program's text (the seventh form; the later family's looks); each row that meets fmt, with fmt's text TOLD by the authors' own Lean function (tested against real Go, not proved from fmt's source: count such statements apart). THE CARD IS WHAT COUNTS. Prove the row's statement (the work); the ties are given (YtaooidckmepdeaaGreatDoorTie.lean); close each card by the builder's one call (the guide's Derived/Test/ToyasCard.lean, 'card_holds'). Laid BY PROGRAM, IN A SANDBOX (cutbox-door.mjs). By AI agents, Wed Nov 11 2026. No macro, syntax, notation, axiom, sorry.
-/
import Derived.Test.YtaooidckmepdeaaGreatDoorRows
import GoSem.ClaimSeven
namespace Go.Proofs.YtaooidckmepdeaaGreatDoor
namespace Rows

/-- THE TIED CARD OF 'bollardlaw20.CodecParses'. -/
def codecParsesCard : Claim7 := { stood := { row := codecParsesRow, standIns := [], harness := (true, "23c65fcb9d56cd985d2d1f8c94b991c970ac4f34d26c40db3e56de36246c2959"), looks := false }, kinds := [], alts := [], laidByText := true, laidKinds := [.data], laidTests := true, laidLooks := .later }
def CodecParsesCardSaid : Prop := Claim7.holds Tryz.pinned (.plain (OpenSpec.ofChange codecParsesSpec)) codecParsesCard

/-- THE TIED CARD OF 'bollardlaw20.CodecResponses'. -/
def codecResponsesCard : Claim7 := { stood := { row := codecResponsesRow, standIns := [], harness := (true, "23c65fcb9d56cd985d2d1f8c94b991c970ac4f34d26c40db3e56de36246c2959"), looks := false }, kinds := [], alts := [], laidByText := true, laidKinds := [.data], laidTests := true, laidLooks := .later }
def CodecResponsesCardSaid : Prop := Claim7.holds Tryz.pinned (.plain (OpenSpec.ofChange codecResponsesSpec)) codecResponsesCard

/-- THE SECOND FORM's CARD OF 'bollardlaw20.CodecParses'. -/
def codecParsesUptoCard : Claim7 := { stood := { row := codecParsesUptoRow, standIns := [], harness := (true, "23c65fcb9d56cd985d2d1f8c94b991c970ac4f34d26c40db3e56de36246c2959"), looks := false }, kinds := [], alts := [], laidByText := true, laidKinds := [.data], laidTests := true, laidLooks := .later }
def CodecParsesUptoCardSaid : Prop := Claim7.holds Tryz.pinned (.plain (OpenSpec.upto codecParsesSpec)) codecParsesUptoCard

/-- THE SECOND FORM's CARD OF 'bollardlaw20.CodecResponses'. -/
def codecResponsesUptoCard : Claim7 := { stood := { row := codecResponsesUptoRow, standIns := [], harness := (true, "23c65fcb9d56cd985d2d1f8c94b991c970ac4f34d26c40db3e56de36246c2959"), looks := false }, kinds := [], alts := [], laidByText := true, laidKinds := [.data], laidTests := true, laidLooks := .later }
def CodecResponsesUptoCardSaid : Prop := Claim7.holds Tryz.pinned (.plain (OpenSpec.upto codecResponsesSpec)) codecResponsesUptoCard
end Rows
end Go.Proofs.YtaooidckmepdeaaGreatDoor
