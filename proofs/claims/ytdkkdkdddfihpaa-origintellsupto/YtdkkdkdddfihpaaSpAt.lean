/- Walks of Where and Back. -/
import Derived.Test.YtdkkdkdddfihpaaSpText
import Derived.Shelf.SlGeneric
namespace Go.Proofs.Ytdkkdkdddfihpaa
open Go.RowKit Go.Shelf

theorem IAt.below {w w' : World} {b : Nat} {l : List Nat} (h : IAt w b l) (hb : Below w.heap.size w w') : IAt w' b l :=
  ⟨Nat.lt_of_lt_of_le h.1 hb.size, fun j hj => (hb.cell (p := ⟨b, j, none⟩) h.1).trans (h.2 j hj)⟩

def whereI (l : List Nat) (k : Int) : Int := if 0 ≤ k ∧ k < l.length then ((l.getD k.toNat 0 : Nat) : Int) else -1
theorem whereI_out (l : List Nat) (k : Int) (h : k < 0 ∨ (l.length : Int) ≤ k) : -1 = whereI l k := by
  unfold whereI; rw [if_neg (by omega)]
theorem whereI_in (l : List Nat) (j : Nat) (h : j < l.length) : ((l[j] : Nat) : Int) = whereI l j := by
  unfold whereI; rw [if_pos (by omega)]; simp [List.getD, h]

end Go.Proofs.Ytdkkdkdddfihpaa
