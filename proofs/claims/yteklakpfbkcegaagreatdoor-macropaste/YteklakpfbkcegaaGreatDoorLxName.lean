/- Walks of nameSize and Name. -/
import Derived.Test.YteklakpfbkcegaaGreatDoorLxWord
import Derived.Shelf.Abstract
namespace Go.Proofs.YteklakpfbkcegaaGreatDoor
open Go.RowKit Go.Shelf

theorem empty_of {s : ByteArray} (h : s.size = 0) : s = ⟨#[]⟩ := by
  cases s with | mk d => simp [ByteArray.size] at h; subst h; rfl
theorem isEmpty_false {s : ByteArray} (h : 1 ≤ s.size) : s.toList.isEmpty = false := by
  rw [toList_data]
  have := size_data s
  cases hd : s.data.toList with
  | nil => rw [hd] at this; simp at this; omega
  | cons _ _ => rfl

set_option maxHeartbeats 400000 in
theorem nameSize_any (s : ByteArray) (w : World) (hs : s.size ≤ maxLen) :
    Calls Tryz.prog 93 #[.string s] w fun e w' => e = .returned (.int .i64 (nameSz s.data.toList : Nat)) ∧ Below w.heap.size w w' := by
  have HB := hid ((Below.refl _ w).alloc (Nat.le_refl _) (.cells #[.string s] 9))
  by_cases h0 : s.size = 0
  · obtain rfl := empty_of h0
    go_enter Tryz.func93, Tryz.ntmps93
    go_wp2
    go_ret
    exact ⟨rfl, HB.out⟩
  · have h1 : 1 ≤ s.size := by omega
    have he := isEmpty_false h1
    have hz : (0 : Int) < (s.size : Int) := by omega
    have HL := hid (fun W => Letter_any s[0] W)
    have HE : Hid (nameSz s.data.toList = if letB s[0] then spanN (fun i => wordB (byteAt s.data.toList i)) s.size else 0) := by
      show _ = _
      unfold nameSz
      rw [if_neg (by rw [← List.isEmpty_iff, ← toList_data, he]; simp), byte_at s 0 (by omega), size_data]
    have HSp := hid (span_any s 111 w.heap.size (fun i => wordB (byteAt s.data.toList i)) (w.alloc (.cells #[.string s] 9)) (enters_of Tryz.func111 (by kernel_rfl) rfl)
      (fun i _ hi => nameSize1_any s w.heap.size i _ hi (by rw [World.cell?_alloc_mark]; rfl)) h1 hs)
    cases hl : letB s[0] with
    | false =>
      rw [hl] at HL HE
      clear hl h0
      go_enter Tryz.func93, Tryz.ntmps93
      go_wp2_with (go_at_call 110; refine (HL.out _).mono ?_; rintro e w' ⟨rfl, hww⟩; subst w')
      go_ret
      exact ⟨ret_int (by rw [HE.out]; rfl), HB.out⟩
    | true =>
      rw [hl] at HL HE
      clear hl h0
      go_enter Tryz.func93, Tryz.ntmps93
      go_wp2_with (first | (go_at_call 110; refine (HL.out _).mono ?_; rintro e w' ⟨rfl, hww⟩; subst w') | (go_at_call 101; refine HSp.out.mono ?_; rintro e w' ⟨rfl, hww⟩; subst w'))
      go_ret
      exact ⟨ret_int (by rw [HE.out]; rfl), HB.out⟩

def nameIs (l : List UInt8) : Bool := decide (l ≠ []) && decide (nameSz l = l.length)
end Go.Proofs.YteklakpfbkcegaaGreatDoor
