/- A crash, as the laws use it. -/
import Derived.Test.YtghdpapdnkibdaaGreatDoorUse
import Derived.Test.YtghdpapdnkibdaaGreatDoorCw
namespace Go.Proofs.YtghdpapdnkibdaaGreatDoor
set_option linter.unusedSimpArgs false
set_option linter.unusedVariables false
open Go.RowKit Go.MapKept
end Go.Proofs.YtghdpapdnkibdaaGreatDoor
