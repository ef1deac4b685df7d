/-
  DERIVED. GIVEN WITH THE SEED: THE CARDS: each row of YtohncckmennfbaaDoorRows.lean that lists a variable, with what it lists TIED to the program's text (the seventh form; the later family's looks); each row that meets fmt, with fmt's text TOLD by the authors' own Lean function (tested against real Go, not proved from fmt's source: count such statements apart). THE CARD IS WHAT COUNTS. Prove the row's statement (the work); the ties are given (YtohncckmennfbaaDoorTie.lean); close each card by the builder's one call (the guide's Derived/Test/ToyasCard.lean, 'card_holds'). Laid BY PROGRAM, IN A SANDBOX (cutbox-door.mjs). By AI agents, Wed Nov 11 2026. No macro, syntax, notation, axiom, sorry.
-/
import Derived.Test.YtohncckmennfbaaDoorRows
import GoSem.ClaimSeven
namespace Go.Proofs.YtohncckmennfbaaDoor
namespace Rows

/-- THE TIED CARD OF 'bollardlaw5.CachePlays'. -/
def cachePlaysCard : Claim7 := { stood := { row := cachePlaysRow, standIns := [], harness := (true, "3e369256264db62d700d09cac2f337a44d68c770a80ab6b3bb927d0f1a14bf28"), looks := true }, kinds := [], alts := [], laidByText := true, laidKinds := [.data], laidTests := true, laidLooks := .later }
def CachePlaysCardSaid : Prop := Claim7.holds Tryd.pinned (.plain (OpenSpec.ofChange cachePlaysSpec)) cachePlaysCard

/-- THE TIED CARD OF 'bollardlaw5.CacheNothing'. -/
def cacheNothingCard : Claim7 := { stood := { row := cacheNothingRow, standIns := [], harness := (true, "3e369256264db62d700d09cac2f337a44d68c770a80ab6b3bb927d0f1a14bf28"), looks := true }, kinds := [], alts := [], laidByText := true, laidKinds := [.data], laidTests := true, laidLooks := .later }
def CacheNothingCardSaid : Prop := Claim7.holds Tryd.pinned (.plain (OpenSpec.ofChange cacheNothingSpec)) cacheNothingCard

/-- THE TIED CARD OF 'bollardlaw5.CacheWhole'. -/
def cacheWholeCard : Claim7 := { stood := { row := cacheWholeRow, standIns := [], harness := (true, "3e369256264db62d700d09cac2f337a44d68c770a80ab6b3bb927d0f1a14bf28"), looks := true }, kinds := [], alts := [], laidByText := true, laidKinds := [.data], laidTests := true, laidLooks := .later }
def CacheWholeCardSaid : Prop := Claim7.holds Tryd.pinned (.plain (OpenSpec.ofChange cacheWholeSpec)) cacheWholeCard

/-- THE TIED CARD OF 'bollardlaw5.CacheOver'. -/
def cacheOverCard : Claim7 := { stood := { row := cacheOverRow, standIns := [], harness := (true, "3e369256264db62d700d09cac2f337a44d68c770a80ab6b3bb927d0f1a14bf28"), looks := true }, kinds := [], alts := [], laidByText := true, laidKinds := [.data], laidTests := true, laidLooks := .later }
def CacheOverCardSaid : Prop := Claim7.holds Tryd.pinned (.plain (OpenSpec.ofChange cacheOverSpec)) cacheOverCard

/-- THE TIED CARD OF 'bollardlaw5.CacheOwn'. -/
def cacheOwnCard : Claim7 := { stood := { row := cacheOwnRow, standIns := [], harness := (true, "3e369256264db62d700d09cac2f337a44d68c770a80ab6b3bb927d0f1a14bf28"), looks := true }, kinds := [], alts := [], laidByText := true, laidKinds := [.data], laidTests := true, laidLooks := .later }
def CacheOwnCardSaid : Prop := Claim7.holds Tryd.pinned (.plain (OpenSpec.ofChange cacheOwnSpec)) cacheOwnCard

/-- THE TIED CARD OF 'bollardlaw5.CacheCounts'. -/
def cacheCountsCard : Claim7 := { stood := { row := cacheCountsRow, standIns := [], harness := (true, "3e369256264db62d700d09cac2f337a44d68c770a80ab6b3bb927d0f1a14bf28"), looks := true }, kinds := [], alts := [], laidByText := true, laidKinds := [.data], laidTests := true, laidLooks := .later }
def CacheCountsCardSaid : Prop := Claim7.holds Tryd.pinned (.plain (OpenSpec.ofChange cacheCountsSpec)) cacheCountsCard

/-- THE SECOND FORM's CARD OF 'bollardlaw5.CachePlays'. -/
def cachePlaysUptoCard : Claim7 := { stood := { row := cachePlaysUptoRow, standIns := [], harness := (true, "3e369256264db62d700d09cac2f337a44d68c770a80ab6b3bb927d0f1a14bf28"), looks := true }, kinds := [], alts := [], laidByText := true, laidKinds := [.data], laidTests := true, laidLooks := .later }
def CachePlaysUptoCardSaid : Prop := Claim7.holds Tryd.pinned (.plain (OpenSpec.upto cachePlaysSpec)) cachePlaysUptoCard

/-- THE SECOND FORM's CARD OF 'bollardlaw5.CacheNothing'. -/
def cacheNothingUptoCard : Claim7 := { stood := { row := cacheNothingUptoRow, standIns := [], harness := (true, "3e369256264db62d700d09cac2f337a44d68c770a80ab6b3bb927d0f1a14bf28"), looks := true }, kinds := [], alts := [], laidByText := true, laidKinds := [.data], laidTests := true, laidLooks := .later }
def CacheNothingUptoCardSaid : Prop := Claim7.holds Tryd.pinned (.plain (OpenSpec.upto cacheNothingSpec)) cacheNothingUptoCard

/-- THE SECOND FORM's CARD OF 'bollardlaw5.CacheWhole'. -/
def cacheWholeUptoCard : Claim7 := { stood := { row := cacheWholeUptoRow, standIns := [], harness := (true, "3e369256264db62d700d09cac2f337a44d68c770a80ab6b3bb927d0f1a14bf28"), looks := true }, kinds := [], alts := [], laidByText := true, laidKinds := [.data], laidTests := true, laidLooks := .later }
def CacheWholeUptoCardSaid : Prop := Claim7.holds Tryd.pinned (.plain (OpenSpec.upto cacheWholeSpec)) cacheWholeUptoCard

/-- THE SECOND FORM's CARD OF 'bollardlaw5.CacheOver'. -/
def cacheOverUptoCard : Claim7 := { stood := { row := cacheOverUptoRow, standIns := [], harness := (true, "3e369256264db62d700d09cac2f337a44d68c770a80ab6b3bb927d0f1a14bf28"), looks := true }, kinds := [], alts := [], laidByText := true, laidKinds := [.data], laidTests := true, laidLooks := .later }
def CacheOverUptoCardSaid : Prop := Claim7.holds Tryd.pinned (.plain (OpenSpec.upto cacheOverSpec)) cacheOverUptoCard

/-- THE SECOND FORM's CARD OF 'bollardlaw5.CacheOwn'. -/
def cacheOwnUptoCard : Claim7 := { stood := { row := cacheOwnUptoRow, standIns := [], harness := (true, "3e369256264db62d700d09cac2f337a44d68c770a80ab6b3bb927d0f1a14bf28"), looks := true }, kinds := [], alts := [], laidByText := true, laidKinds := [.data], laidTests := true, laidLooks := .later }
def CacheOwnUptoCardSaid : Prop := Claim7.holds Tryd.pinned (.plain (OpenSpec.upto cacheOwnSpec)) cacheOwnUptoCard

/-- THE SECOND FORM's CARD OF 'bollardlaw5.CacheCounts'. -/
def cacheCountsUptoCard : Claim7 := { stood := { row := cacheCountsUptoRow, standIns := [], harness := (true, "3e369256264db62d700d09cac2f337a44d68c770a80ab6b3bb927d0f1a14bf28"), looks := true }, kinds := [], alts := [], laidByText := true, laidKinds := [.data], laidTests := true, laidLooks := .later }
def CacheCountsUptoCardSaid : Prop := Claim7.holds Tryd.pinned (.plain (OpenSpec.upto cacheCountsSpec)) cacheCountsUptoCard
end Rows
end Go.Proofs.YtohncckmennfbaaDoor
