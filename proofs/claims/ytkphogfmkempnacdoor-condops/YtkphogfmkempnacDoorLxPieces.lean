/- Walks of pieces and of what it answers: one piece after the other. -/
import Derived.Test.YtkphogfmkempnacDoorLxMade
namespace Go.Proofs.YtkphogfmkempnacDoor
open Go.RowKit Go.Shelf

end Go.Proofs.YtkphogfmkempnacDoor
