/- A crash, as the laws use it. -/
import Derived.Test.YtpjeidihcjljnaaGreatDoorUse
import Derived.Test.YtpjeidihcjljnaaGreatDoorCw
namespace Go.Proofs.YtpjeidihcjljnaaGreatDoor
set_option linter.unusedSimpArgs false
set_option linter.unusedVariables false
open Go.RowKit Go.MapKept
end Go.Proofs.YtpjeidihcjljnaaGreatDoor
