/- Walks of Letter, Digit, inName, span, nameSize, Name and numberSize. -/
import Derived.Test.YtienjifhkmekcaaDoorLxFacts
import Derived.Test.YtienjifhkmekcaaDoorSpGone
import Derived.Deep.QuietTactic
import Derived.BigQuiet
namespace Go.Proofs.YtienjifhkmekcaaDoor
open Go.RowKit

/-- What a closure over one variable answers, of every number from 1 below n. -/
def Holds (f B : Nat) (q : Nat → Bool) (n : Nat) (w : World) : Prop :=
  ∀ i : Nat, 1 ≤ i → i < n → Calls Tryd.prog f #[.int .i64 (i : Int), .pointer (some ⟨B, 0, none⟩)] w fun e w' => e = .returned (.bool (q i)) ∧ w' = w

theorem byte_at (s : ByteArray) (i : Nat) (h : i < s.size) : s[i] = byteAt s.data.toList i := by
  symm
  apply byteAt_eq
  rw [List.getElem?_eq_getElem (by rw [size_data]; exact h)]
  rfl

end Go.Proofs.YtienjifhkmekcaaDoor
