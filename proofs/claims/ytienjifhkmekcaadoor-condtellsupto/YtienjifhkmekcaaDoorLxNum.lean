/- Walks of numberSize and of what is quoted. -/
import Derived.Test.YtienjifhkmekcaaDoorLxName
import Derived.Test.YtienjifhkmekcaaDoorLxShelf
namespace Go.Proofs.YtienjifhkmekcaaDoor
open Go.RowKit Go.Shelf

theorem u8i (c k : UInt8) : (c = k) = ((c.toNat : Int) = (k.toNat : Int)) := by
  apply propext
  constructor
  · intro h; rw [h]
  · intro h; exact UInt8.toNat_inj.1 (by omega)

/-- The same, of the bytes as numbers. -/
theorem numB_int (l : List UInt8) (i : Nat) (c d : UInt8) (hc : byteAt l (i + 1) = c) (hd : byteAt l i = d) :
    numB l (i + 1) = if (c.toNat : Int) = 46 then true else if (c.toNat : Int) = 43 ∨ (c.toNat : Int) = 45 then ((d.toNat : Int) == 101 || (d.toNat : Int) == 69) else wordB c := by
  unfold numB
  rw [hc, Nat.add_sub_cancel, hd]
  simp only [u8i]
  rfl

theorem startsNum_trim (l : List UInt8) : startsNum l = match Lib.trimPrefix l [46] with | [] => false | d :: _ => digB d := by
  cases l with
  | nil => rfl
  | cons c r =>
    by_cases h : c = 46
    · subst h
      simp [startsNum, Lib.trimPrefix, Lib.hasPrefix]
      cases r <;> rfl
    · have h' : ¬ (46 = c) := fun e => h e.symm
      simp [startsNum, Lib.trimPrefix, Lib.hasPrefix, h, h']

end Go.Proofs.YtienjifhkmekcaaDoor
