/-
  DERIVED. GIVEN WITH THE SEED: THE CARDS: each row of YtmodjgailmpfmaaDoorRows.lean that lists a variable, with what it lists TIED to the program's text (the seventh form; the later family's looks); each row that meets fmt, with fmt's text TOLD by the authors' own Lean function (tested against real Go, not proved from fmt's source: count such statements apart). THE CARD IS WHAT COUNTS. Prove the row's statement (the work); the ties are given (YtmodjgailmpfmaaDoorTie.lean); close each card by the builder's one call (the guide's Derived/Test/ToyasCard.lean, 'card_holds'). Laid BY PROGRAM, IN A SANDBOX (cutbox-door.mjs). By AI agents, Wed Nov 11 2026. No macro, syntax, notation, axiom, sorry.
-/
import Derived.Test.YtmodjgailmpfmaaDoorRows
import GoSem.ClaimSeven
namespace Go.Proofs.YtmodjgailmpfmaaDoor
namespace Rows

/-- THE TIED CARD OF 'bollardlaw4.JournalPlays'. -/
def journalPlaysCard : Claim7 := { stood := { row := journalPlaysRow, standIns := [], harness := (true, "e52215fb40312498ddce5b2f875c118d388ecae8fe3ec27d1d8d4031d091d649"), looks := true }, kinds := [], alts := [], laidByText := true, laidKinds := [.data], laidTests := true, laidLooks := .later }
def JournalPlaysCardSaid : Prop := Claim7.holds Tryd.pinned (.plain (OpenSpec.ofChange journalPlaysSpec)) journalPlaysCard

/-- THE TIED CARD OF 'bollardlaw4.JournalRefuses'. -/
def journalRefusesCard : Claim7 := { stood := { row := journalRefusesRow, standIns := [], harness := (true, "e52215fb40312498ddce5b2f875c118d388ecae8fe3ec27d1d8d4031d091d649"), looks := true }, kinds := [], alts := [], laidByText := true, laidKinds := [.data], laidTests := true, laidLooks := .later }
def JournalRefusesCardSaid : Prop := Claim7.holds Tryd.pinned (.plain (OpenSpec.ofChange journalRefusesSpec)) journalRefusesCard

/-- THE TIED CARD OF 'bollardlaw4.JournalBig'. -/
def journalBigCard : Claim7 := { stood := { row := journalBigRow, standIns := [], harness := (true, "e52215fb40312498ddce5b2f875c118d388ecae8fe3ec27d1d8d4031d091d649"), looks := true }, kinds := [], alts := [], laidByText := true, laidKinds := [.data], laidTests := true, laidLooks := .later }
def JournalBigCardSaid : Prop := Claim7.holds Tryd.pinned (.plain (OpenSpec.ofChange journalBigSpec)) journalBigCard

/-- THE TIED CARD OF 'bollardlaw4.JournalNothing'. -/
def journalNothingCard : Claim7 := { stood := { row := journalNothingRow, standIns := [], harness := (true, "e52215fb40312498ddce5b2f875c118d388ecae8fe3ec27d1d8d4031d091d649"), looks := true }, kinds := [], alts := [], laidByText := true, laidKinds := [.data], laidTests := true, laidLooks := .later }
def JournalNothingCardSaid : Prop := Claim7.holds Tryd.pinned (.plain (OpenSpec.ofChange journalNothingSpec)) journalNothingCard

/-- THE TIED CARD OF 'bollardlaw4.JournalCrash'. -/
def journalCrashCard : Claim7 := { stood := { row := journalCrashRow, standIns := [], harness := (true, "e52215fb40312498ddce5b2f875c118d388ecae8fe3ec27d1d8d4031d091d649"), looks := true }, kinds := [], alts := [], laidByText := true, laidKinds := [.data], laidTests := true, laidLooks := .later }
def JournalCrashCardSaid : Prop := Claim7.holds Tryd.pinned (.plain (OpenSpec.ofChange journalCrashSpec)) journalCrashCard

/-- THE TIED CARD OF 'bollardlaw4.JournalDead'. -/
def journalDeadCard : Claim7 := { stood := { row := journalDeadRow, standIns := [], harness := (true, "e52215fb40312498ddce5b2f875c118d388ecae8fe3ec27d1d8d4031d091d649"), looks := true }, kinds := [], alts := [], laidByText := true, laidKinds := [.data], laidTests := true, laidLooks := .later }
def JournalDeadCardSaid : Prop := Claim7.holds Tryd.pinned (.plain (OpenSpec.ofChange journalDeadSpec)) journalDeadCard

/-- THE TIED CARD OF 'bollardlaw4.JournalOwn'. -/
def journalOwnCard : Claim7 := { stood := { row := journalOwnRow, standIns := [], harness := (true, "e52215fb40312498ddce5b2f875c118d388ecae8fe3ec27d1d8d4031d091d649"), looks := true }, kinds := [], alts := [], laidByText := true, laidKinds := [.data], laidTests := true, laidLooks := .later }
def JournalOwnCardSaid : Prop := Claim7.holds Tryd.pinned (.plain (OpenSpec.ofChange journalOwnSpec)) journalOwnCard

/-- THE TIED CARD OF 'bollardlaw4.JournalSynced'. -/
def journalSyncedCard : Claim7 := { stood := { row := journalSyncedRow, standIns := [], harness := (true, "e52215fb40312498ddce5b2f875c118d388ecae8fe3ec27d1d8d4031d091d649"), looks := true }, kinds := [], alts := [], laidByText := true, laidKinds := [.data], laidTests := true, laidLooks := .later }
def JournalSyncedCardSaid : Prop := Claim7.holds Tryd.pinned (.plain (OpenSpec.ofChange journalSyncedSpec)) journalSyncedCard

/-- THE TIED CARD OF 'bollardlaw4.JournalHomes'. -/
def journalHomesCard : Claim7 := { stood := { row := journalHomesRow, standIns := [], harness := (true, "e52215fb40312498ddce5b2f875c118d388ecae8fe3ec27d1d8d4031d091d649"), looks := true }, kinds := [], alts := [], laidByText := true, laidKinds := [.data], laidTests := true, laidLooks := .later }
def JournalHomesCardSaid : Prop := Claim7.holds Tryd.pinned (.plain (OpenSpec.ofChange journalHomesSpec)) journalHomesCard

/-- THE TIED CARD OF 'bollardlaw4.JournalLong'. -/
def journalLongCard : Claim7 := { stood := { row := journalLongRow, standIns := [], harness := (true, "e52215fb40312498ddce5b2f875c118d388ecae8fe3ec27d1d8d4031d091d649"), looks := true }, kinds := [], alts := [], laidByText := true, laidKinds := [.data], laidTests := true, laidLooks := .later }
def JournalLongCardSaid : Prop := Claim7.holds Tryd.pinned (.plain (OpenSpec.ofChange journalLongSpec)) journalLongCard

/-- THE TIED CARD OF 'bollardlaw4.JournalTwice'. -/
def journalTwiceCard : Claim7 := { stood := { row := journalTwiceRow, standIns := [], harness := (true, "e52215fb40312498ddce5b2f875c118d388ecae8fe3ec27d1d8d4031d091d649"), looks := true }, kinds := [], alts := [], laidByText := true, laidKinds := [.data], laidTests := true, laidLooks := .later }
def JournalTwiceCardSaid : Prop := Claim7.holds Tryd.pinned (.plain (OpenSpec.ofChange journalTwiceSpec)) journalTwiceCard

/-- THE SECOND FORM's CARD OF 'bollardlaw4.JournalPlays'. -/
def journalPlaysUptoCard : Claim7 := { stood := { row := journalPlaysUptoRow, standIns := [], harness := (true, "e52215fb40312498ddce5b2f875c118d388ecae8fe3ec27d1d8d4031d091d649"), looks := true }, kinds := [], alts := [], laidByText := true, laidKinds := [.data], laidTests := true, laidLooks := .later }
def JournalPlaysUptoCardSaid : Prop := Claim7.holds Tryd.pinned (.plain (OpenSpec.upto journalPlaysSpec)) journalPlaysUptoCard

/-- THE SECOND FORM's CARD OF 'bollardlaw4.JournalRefuses'. -/
def journalRefusesUptoCard : Claim7 := { stood := { row := journalRefusesUptoRow, standIns := [], harness := (true, "e52215fb40312498ddce5b2f875c118d388ecae8fe3ec27d1d8d4031d091d649"), looks := true }, kinds := [], alts := [], laidByText := true, laidKinds := [.data], laidTests := true, laidLooks := .later }
def JournalRefusesUptoCardSaid : Prop := Claim7.holds Tryd.pinned (.plain (OpenSpec.upto journalRefusesSpec)) journalRefusesUptoCard

/-- THE SECOND FORM's CARD OF 'bollardlaw4.JournalBig'. -/
def journalBigUptoCard : Claim7 := { stood := { row := journalBigUptoRow, standIns := [], harness := (true, "e52215fb40312498ddce5b2f875c118d388ecae8fe3ec27d1d8d4031d091d649"), looks := true }, kinds := [], alts := [], laidByText := true, laidKinds := [.data], laidTests := true, laidLooks := .later }
def JournalBigUptoCardSaid : Prop := Claim7.holds Tryd.pinned (.plain (OpenSpec.upto journalBigSpec)) journalBigUptoCard

/-- THE SECOND FORM's CARD OF 'bollardlaw4.JournalNothing'. -/
def journalNothingUptoCard : Claim7 := { stood := { row := journalNothingUptoRow, standIns := [], harness := (true, "e52215fb40312498ddce5b2f875c118d388ecae8fe3ec27d1d8d4031d091d649"), looks := true }, kinds := [], alts := [], laidByText := true, laidKinds := [.data], laidTests := true, laidLooks := .later }
def JournalNothingUptoCardSaid : Prop := Claim7.holds Tryd.pinned (.plain (OpenSpec.upto journalNothingSpec)) journalNothingUptoCard

/-- THE SECOND FORM's CARD OF 'bollardlaw4.JournalCrash'. -/
def journalCrashUptoCard : Claim7 := { stood := { row := journalCrashUptoRow, standIns := [], harness := (true, "e52215fb40312498ddce5b2f875c118d388ecae8fe3ec27d1d8d4031d091d649"), looks := true }, kinds := [], alts := [], laidByText := true, laidKinds := [.data], laidTests := true, laidLooks := .later }
def JournalCrashUptoCardSaid : Prop := Claim7.holds Tryd.pinned (.plain (OpenSpec.upto journalCrashSpec)) journalCrashUptoCard

/-- THE SECOND FORM's CARD OF 'bollardlaw4.JournalDead'. -/
def journalDeadUptoCard : Claim7 := { stood := { row := journalDeadUptoRow, standIns := [], harness := (true, "e52215fb40312498ddce5b2f875c118d388ecae8fe3ec27d1d8d4031d091d649"), looks := true }, kinds := [], alts := [], laidByText := true, laidKinds := [.data], laidTests := true, laidLooks := .later }
def JournalDeadUptoCardSaid : Prop := Claim7.holds Tryd.pinned (.plain (OpenSpec.upto journalDeadSpec)) journalDeadUptoCard

/-- THE SECOND FORM's CARD OF 'bollardlaw4.JournalOwn'. -/
def journalOwnUptoCard : Claim7 := { stood := { row := journalOwnUptoRow, standIns := [], harness := (true, "e52215fb40312498ddce5b2f875c118d388ecae8fe3ec27d1d8d4031d091d649"), looks := true }, kinds := [], alts := [], laidByText := true, laidKinds := [.data], laidTests := true, laidLooks := .later }
def JournalOwnUptoCardSaid : Prop := Claim7.holds Tryd.pinned (.plain (OpenSpec.upto journalOwnSpec)) journalOwnUptoCard

/-- THE SECOND FORM's CARD OF 'bollardlaw4.JournalSynced'. -/
def journalSyncedUptoCard : Claim7 := { stood := { row := journalSyncedUptoRow, standIns := [], harness := (true, "e52215fb40312498ddce5b2f875c118d388ecae8fe3ec27d1d8d4031d091d649"), looks := true }, kinds := [], alts := [], laidByText := true, laidKinds := [.data], laidTests := true, laidLooks := .later }
def JournalSyncedUptoCardSaid : Prop := Claim7.holds Tryd.pinned (.plain (OpenSpec.upto journalSyncedSpec)) journalSyncedUptoCard

/-- THE SECOND FORM's CARD OF 'bollardlaw4.JournalHomes'. -/
def journalHomesUptoCard : Claim7 := { stood := { row := journalHomesUptoRow, standIns := [], harness := (true, "e52215fb40312498ddce5b2f875c118d388ecae8fe3ec27d1d8d4031d091d649"), looks := true }, kinds := [], alts := [], laidByText := true, laidKinds := [.data], laidTests := true, laidLooks := .later }
def JournalHomesUptoCardSaid : Prop := Claim7.holds Tryd.pinned (.plain (OpenSpec.upto journalHomesSpec)) journalHomesUptoCard

/-- THE SECOND FORM's CARD OF 'bollardlaw4.JournalLong'. -/
def journalLongUptoCard : Claim7 := { stood := { row := journalLongUptoRow, standIns := [], harness := (true, "e52215fb40312498ddce5b2f875c118d388ecae8fe3ec27d1d8d4031d091d649"), looks := true }, kinds := [], alts := [], laidByText := true, laidKinds := [.data], laidTests := true, laidLooks := .later }
def JournalLongUptoCardSaid : Prop := Claim7.holds Tryd.pinned (.plain (OpenSpec.upto journalLongSpec)) journalLongUptoCard

/-- THE SECOND FORM's CARD OF 'bollardlaw4.JournalTwice'. -/
def journalTwiceUptoCard : Claim7 := { stood := { row := journalTwiceUptoRow, standIns := [], harness := (true, "e52215fb40312498ddce5b2f875c118d388ecae8fe3ec27d1d8d4031d091d649"), looks := true }, kinds := [], alts := [], laidByText := true, laidKinds := [.data], laidTests := true, laidLooks := .later }
def JournalTwiceUptoCardSaid : Prop := Claim7.holds Tryd.pinned (.plain (OpenSpec.upto journalTwiceSpec)) journalTwiceUptoCard
end Rows
end Go.Proofs.YtmodjgailmpfmaaDoor
