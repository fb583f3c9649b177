/- Walks of nameSize and Name. -/
import Derived.Test.YtienjifhkmekcaaDoorLxWord
import Derived.Shelf.Abstract
namespace Go.Proofs.YtienjifhkmekcaaDoor
open Go.RowKit Go.Shelf

theorem empty_of {s : ByteArray} (h : s.size = 0) : s = ⟨#[]⟩ := by
  cases s with | mk d => simp [ByteArray.size] at h; subst h; rfl
theorem isEmpty_false {s : ByteArray} (h : 1 ≤ s.size) : s.toList.isEmpty = false := by
  rw [toList_data]
  have := size_data s
  cases hd : s.data.toList with
  | nil => rw [hd] at this; simp at this; omega
  | cons _ _ => rfl

def nameIs (l : List UInt8) : Bool := decide (l ≠ []) && decide (nameSz l = l.length)
end Go.Proofs.YtienjifhkmekcaaDoor
