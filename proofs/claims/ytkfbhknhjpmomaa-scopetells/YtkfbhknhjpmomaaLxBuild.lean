/- Walks of a builder's writing: a call of WriteString lays a text behind what the builder holds, and leaves all else that lay in memory as it was. -/
import Derived.Test.YtkfbhknhjpmomaaLxShelfB
import Derived.Test.YtkfbhknhjpmomaaSpA
namespace Go.Proofs.Ytkfbhknhjpmomaa
open Go.RowKit Go.Shelf

end Go.Proofs.Ytkfbhknhjpmomaa
