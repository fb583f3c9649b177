/- Walks of pieces and of what it answers: one piece after the other. -/
import Derived.Test.YtienjifhkmekcaaDoorLxMade
namespace Go.Proofs.YtienjifhkmekcaaDoor
open Go.RowKit Go.Shelf

end Go.Proofs.YtienjifhkmekcaaDoor
