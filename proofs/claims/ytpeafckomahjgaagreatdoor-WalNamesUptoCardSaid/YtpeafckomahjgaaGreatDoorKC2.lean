/- What a reader tells: plain things, and the zero one with an error. -/
import Derived.Test.YtpeafckomahjgaaGreatDoorKC1
namespace Go.Proofs.YtpeafckomahjgaaGreatDoor
open Go.RowKit Go.Maps
set_option linter.unusedVariables false

end Go.Proofs.YtpeafckomahjgaaGreatDoor
