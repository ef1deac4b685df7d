/-
  DERIVED. GIVEN WITH THE SEED: THE CARDS: each row of YtpjeidihcjljnaaGreatDoorRows.lean that lists a variable, with what it lists TIED to the program's text (the seventh form; the later family's looks); each row that meets fmt, with fmt's text TOLD by the authors' own Lean function (tested against real Go, not proved from fmt's source: count such statements apart). THE CARD IS WHAT COUNTS. Prove the row's statement (the work); the ties are given (YtpjeidihcjljnaaGreatDoorTie.lean); close each card by the builder's one call (the guide's Derived/Test/ToyasCard.lean, 'card_holds'). Laid BY PROGRAM, IN A SANDBOX (cutbox-door.mjs). By AI agents, Wed Nov 11 2026. No macro, syntax, notation, axiom, sorry.
-/
import Derived.Test.YtpjeidihcjljnaaGreatDoorRows
import GoSem.ClaimSeven
namespace Go.Proofs.YtpjeidihcjljnaaGreatDoor
namespace Rows

/-- THE TIED CARD OF 'bollardlaw7.AllocLeast'. -/
def allocLeastCard : Claim7 := { stood := { row := allocLeastRow, standIns := [], harness := (true, "83f522cd96ede2f35a49ef0b9a5394c50fe5399a128d9e456fdf7c576c2c7540"), looks := true }, kinds := [], alts := [], laidByText := true, laidKinds := [.data, .data], laidTests := true, laidLooks := .later }
def AllocLeastCardSaid : Prop := Claim7.holds Tryz.pinned (.plain (OpenSpec.ofChange allocLeastSpec)) allocLeastCard

/-- THE SECOND FORM's CARD OF 'bollardlaw7.AllocLeast'. -/
def allocLeastUptoCard : Claim7 := { stood := { row := allocLeastUptoRow, standIns := [], harness := (true, "83f522cd96ede2f35a49ef0b9a5394c50fe5399a128d9e456fdf7c576c2c7540"), looks := true }, kinds := [], alts := [], laidByText := true, laidKinds := [.data, .data], laidTests := true, laidLooks := .later }
def AllocLeastUptoCardSaid : Prop := Claim7.holds Tryz.pinned (.plain (OpenSpec.upto allocLeastSpec)) allocLeastUptoCard
end Rows
end Go.Proofs.YtpjeidihcjljnaaGreatDoor
