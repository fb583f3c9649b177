/- Walks of Signs, quoted and shapes. -/
import Derived.Test.YtienjifhkmekcaaDoorLxMeasure
import Derived.Lib.SmallJoins
namespace Go.Proofs.YtienjifhkmekcaaDoor
open Go.RowKit Go.Shelf

/-- What the library's variables hold. -/
def Env (w : World) : Prop := Mx w ∧ Lib.TabIs Tryd.prog w "strings.asciiSpace" .u8 Lib.asciiSpaceTab
theorem ascii_of_all {s : ByteArray} (h : s.data.toList.all (fun b => decide (b.toNat < 128)) = true) : ∀ (j : Nat) b, s.data.toList[j]? = some b → b.toNat < 128 := by
  intro j b hb
  have := List.all_eq_true.1 h b (List.mem_of_getElem? hb)
  simpa using this

def signCells : Array Value := (signsL.map fun l => Value.string ⟨l.toArray⟩).toArray

end Go.Proofs.YtienjifhkmekcaaDoor
