/- Walks of Where and Back. -/
import Derived.Test.YteklakpfbkcegaaGreatDoorSpText
import Derived.Shelf.SlGeneric
namespace Go.Proofs.YteklakpfbkcegaaGreatDoor
open Go.RowKit Go.Shelf

theorem IAt.below {w w' : World} {b : Nat} {l : List Nat} (h : IAt w b l) (hb : Below w.heap.size w w') : IAt w' b l :=
  ⟨Nat.lt_of_lt_of_le h.1 hb.size, fun j hj => (hb.cell (p := ⟨b, j, none⟩) h.1).trans (h.2 j hj)⟩

def whereI (l : List Nat) (k : Int) : Int := if 0 ≤ k ∧ k < l.length then ((l.getD k.toNat 0 : Nat) : Int) else -1
theorem whereI_out (l : List Nat) (k : Int) (h : k < 0 ∨ (l.length : Int) ≤ k) : -1 = whereI l k := by
  unfold whereI; rw [if_neg (by omega)]
theorem whereI_in (l : List Nat) (j : Nat) (h : j < l.length) : ((l[j] : Nat) : Int) = whereI l j := by
  unfold whereI; rw [if_pos (by omega)]; simp [List.getD, h]

set_option maxHeartbeats 400000 in
theorem Where_any (T : ByteArray) (b c : Nat) (l : List Nat) (k : Int) (w : World) (hI : IAt w b l) :
    Calls Tryz.prog 67 #[.agg #[.string T, .slice (some ⟨b, 0, none⟩) l.length c], .int .i64 k] w fun e w' => e = .returned (.int .i64 (whereI l k)) ∧ Below w.heap.size w w' := by
  have HB := hid (fun o => (Below.refl _ w).alloc (Nat.le_refl _) o)
  by_cases hk : k < 0 ∨ (l.length : Int) ≤ k
  · have HE := hid (whereI_out l k hk)
    by_cases hk0 : k < 0
    · go_enter Tryz.func67, Tryz.ntmps67
      go_wp2
      go_ret
      exact ⟨ret_int HE.out, HB.out _⟩
    · have hk1 : (l.length : Int) ≤ k := by omega
      have hk2 : 0 ≤ k := by omega
      clear hk
      go_enter Tryz.func67, Tryz.ntmps67
      go_wp2
      go_ret
      exact ⟨ret_int HE.out, HB.out _⟩
  · obtain ⟨j, rfl⟩ : ∃ j : Nat, k = j := ⟨k.toNat, by omega⟩
    have hj : j < l.length := by omega
    have HE := hid (whereI_in l j hj)
    have hc := hI.2 j hj
    have hb := hI.1
    have hne : b ≠ w.heap.size := by omega
    generalize l[j] = y at hc HE
    clear hk
    go_enter Tryz.func67, Tryz.ntmps67
    go_wp2
    go_ret
    exact ⟨ret_int HE.out, HB.out _⟩

end Go.Proofs.YteklakpfbkcegaaGreatDoor
