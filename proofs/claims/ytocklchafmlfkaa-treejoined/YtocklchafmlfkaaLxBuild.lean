/- Walks of a builder's writing: a call of WriteString lays a text behind what the builder holds, and leaves all else that lay in memory as it was. -/
import Derived.Test.YtocklchafmlfkaaLxShelfB
import Derived.Test.YtocklchafmlfkaaSpA
namespace Go.Proofs.Ytocklchafmlfkaa
open Go.RowKit Go.Shelf

end Go.Proofs.Ytocklchafmlfkaa
