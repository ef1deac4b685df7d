/- A crash, as the laws use it. -/
import Derived.Test.YtgkjnjnnpgibaaaGreatDoorUse
import Derived.Test.YtgkjnjnnpgibaaaGreatDoorCw
namespace Go.Proofs.YtgkjnjnnpgibaaaGreatDoor
set_option linter.unusedSimpArgs false
set_option linter.unusedVariables false
open Go.RowKit Go.MapKept
end Go.Proofs.YtgkjnjnnpgibaaaGreatDoor
