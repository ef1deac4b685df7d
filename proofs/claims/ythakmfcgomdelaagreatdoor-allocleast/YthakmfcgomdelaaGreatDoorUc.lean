/- A crash, as the laws use it. -/
import Derived.Test.YthakmfcgomdelaaGreatDoorUse
import Derived.Test.YthakmfcgomdelaaGreatDoorCw
namespace Go.Proofs.YthakmfcgomdelaaGreatDoor
set_option linter.unusedSimpArgs false
set_option linter.unusedVariables false
open Go.RowKit Go.MapKept
end Go.Proofs.YthakmfcgomdelaaGreatDoor
