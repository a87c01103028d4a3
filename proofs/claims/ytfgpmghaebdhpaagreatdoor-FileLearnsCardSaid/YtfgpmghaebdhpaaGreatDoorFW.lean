/- What the claims want together. -/
import Derived.Test.YtfgpmghaebdhpaaGreatDoorFU
import Derived.Test.YtfgpmghaebdhpaaGreatDoorFV
namespace Go.Proofs.YtfgpmghaebdhpaaGreatDoor
end Go.Proofs.YtfgpmghaebdhpaaGreatDoor
