/- Walk of what is quoted. -/
import Derived.Test.YtienjifhkmekcaaDoorLxNum
namespace Go.Proofs.YtienjifhkmekcaaDoor
open Go.RowKit Go.Shelf

theorem below_drewN {B : Nat} {a w : World} (h : Below B a w) (n : Nat) : Below B a (w.drewN n) := h.trans ⟨rfl, rfl, rfl, Nat.le_refl _, fun _ _ => rfl⟩

theorem quotGo_end (q : UInt8) (l : List UInt8) (k : Nat) (h : l.length ≤ k) : quotGo q (l.drop k) k = -1 := by
  rw [List.drop_eq_nil_of_le h]; rfl
theorem quotGo_step (q : UInt8) (l : List UInt8) (k : Nat) (c : UInt8) (h : l[k]? = some c) :
    quotGo q (l.drop k) k = if c = 10 then -1 else if c = q then (k : Int) + 1 else if c = 92 ∧ k + 1 < l.length ∧ byteAt l (k + 1) ≠ 10 then quotGo q (l.drop (k + 2)) (k + 2) else quotGo q (l.drop (k + 1)) (k + 1) := by
  have hk := (List.getElem?_eq_some_iff.1 h).1
  have e1 : l.drop k = c :: l.drop (k + 1) := by
    rw [List.drop_eq_getElem_cons hk]
    congr 1
    exact (List.getElem?_eq_some_iff.1 h).2
  rw [e1]
  by_cases hk1 : k + 1 < l.length
  · have e2 : l.drop (k + 1) = byteAt l (k + 1) :: l.drop (k + 2) := by
      rw [List.drop_eq_getElem_cons hk1]
      congr 1
      exact (byteAt_eq l (k + 1) _ (List.getElem?_eq_getElem hk1)).symm
    rw [e2]
    simp only [quotGo, hk1, true_and]
  · have e2 : l.drop (k + 1) = [] := List.drop_eq_nil_of_le (by omega)
    rw [e2]
    simp [quotGo, hk1]

end Go.Proofs.YtienjifhkmekcaaDoor
