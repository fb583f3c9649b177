/- Walk of Lines. -/
import Derived.Test.YtkfbhknhjpmomaaSpA
import Derived.Test.YtkfbhknhjpmomaaLxShelf
namespace Go.Proofs.Ytkfbhknhjpmomaa
open Go.RowKit Go.Shelf

def clamp (k : Int) (n : Nat) : Nat := (min (max k 0) (n : Int)).toNat
def linesI (l : List UInt8) (k : Int) : Int := 1 + ((l.take (clamp k l.length)).count 10 : Nat)

end Go.Proofs.Ytkfbhknhjpmomaa
