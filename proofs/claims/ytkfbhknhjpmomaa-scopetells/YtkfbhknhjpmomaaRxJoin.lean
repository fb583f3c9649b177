/- Walks of the document's own SameToken, SameTokens, Sticks and Join. -/
import Derived.Test.YtkfbhknhjpmomaaTkAgg
import Derived.Test.YtkfbhknhjpmomaaLxJoin
import Derived.Test.YtkfbhknhjpmomaaLxStand
import Derived.Test.YtkfbhknhjpmomaaLxRef
namespace Go.Proofs.Ytkfbhknhjpmomaa
open Go.RowKit Go.Shelf

/-- The document's own Tokens. -/
def RToks : Prop := ∀ (file : Int) (s : ByteArray) (w : World), Calls Try.prog 15 #[.int .i64 file, .string s] w (TokPost file s.data.toList w)

theorem toks_err (file : Int) (l : List UInt8) (h : (toksF file l).2.1 ≠ 0) : (toksF file l).1 = [] := by
  revert h
  unfold toksF
  split
  · exact fun _ => rfl
  · split
    · exact fun _ => rfl
    · exact fun h => absurd rfl h

end Go.Proofs.Ytkfbhknhjpmomaa
