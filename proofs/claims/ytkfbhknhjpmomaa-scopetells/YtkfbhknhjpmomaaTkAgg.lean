/- A token's value. -/
import Derived.Test.YtkfbhknhjpmomaaLxC
namespace Go.Proofs.Ytkfbhknhjpmomaa
open Go.RowKit

def aggT (t : Tk) : Value := .agg #[.int .i64 t.kind, .string t.text, .bool t.space, .bool t.first, .int .i64 t.file, .int .i64 t.lo, .int .i64 t.hi, .int .i64 t.line, .slice none 0 0, .slice none 0 0, .int .i64 0]
end Go.Proofs.Ytkfbhknhjpmomaa
