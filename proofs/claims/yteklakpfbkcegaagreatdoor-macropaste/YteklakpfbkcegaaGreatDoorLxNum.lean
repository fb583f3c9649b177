/- Walks of numberSize and of what is quoted. -/
import Derived.Test.YteklakpfbkcegaaGreatDoorLxName
import Derived.Test.YteklakpfbkcegaaGreatDoorLxShelf
namespace Go.Proofs.YteklakpfbkcegaaGreatDoor
open Go.RowKit Go.Shelf

theorem u8i (c k : UInt8) : (c = k) = ((c.toNat : Int) = (k.toNat : Int)) := by
  apply propext
  constructor
  · intro h; rw [h]
  · intro h; exact UInt8.toNat_inj.1 (by omega)

/-- The same, of the bytes as numbers. -/
theorem numB_int (l : List UInt8) (i : Nat) (c d : UInt8) (hc : byteAt l (i + 1) = c) (hd : byteAt l i = d) :
    numB l (i + 1) = if (c.toNat : Int) = 46 then true else if (c.toNat : Int) = 43 ∨ (c.toNat : Int) = 45 then ((d.toNat : Int) == 101 || (d.toNat : Int) == 69) else wordB c := by
  unfold numB
  rw [hc, Nat.add_sub_cancel, hd]
  simp only [u8i]
  rfl

set_option maxHeartbeats 400000 in
theorem numberSize1_any (s : ByteArray) (B i : Nat) (w : World) (h1 : 1 ≤ i) (hi : i < s.size) (hm : s.size ≤ maxLen) (hB : w.cell? ⟨B, 0, none⟩ = some (.string s)) :
    Calls Tryz.prog 115 #[.int .i64 (i : Int), .pointer (some ⟨B, 0, none⟩)] w fun e w' => e = .returned (.bool (numB s.data.toList i)) ∧ w' = w := by
  unfold maxLen at hm
  obtain ⟨j, rfl⟩ : ∃ j, i = j + 1 := ⟨i - 1, by omega⟩
  have HC := hid (inName_any s[j + 1] w)
  have hj : j < s.size := by omega
  have HN := hid (numB_int s.data.toList j s[j + 1] s[j] (byte_at s (j + 1) hi).symm (byte_at s j hj).symm)
  generalize numB s.data.toList (j + 1) = r at HN ⊢
  go_enter Tryz.func115, Tryz.ntmps115
  go_wp2_with (go_at_call 112; refine HC.out.mono ?_; rintro e w' ⟨rfl, hww⟩; subst w')
  all_goals go_ret
  all_goals (refine ⟨ret_bool ?_, rfl⟩; rw [HN.out]; simp_all)

theorem startsNum_trim (l : List UInt8) : startsNum l = match Lib.trimPrefix l [46] with | [] => false | d :: _ => digB d := by
  cases l with
  | nil => rfl
  | cons c r =>
    by_cases h : c = 46
    · subst h
      simp [startsNum, Lib.trimPrefix, Lib.hasPrefix]
      cases r <;> rfl
    · have h' : ¬ (46 = c) := fun e => h e.symm
      simp [startsNum, Lib.trimPrefix, Lib.hasPrefix, h, h']

set_option maxHeartbeats 400000 in
theorem numberSize_any (s : ByteArray) (w : World) (hs : s.size ≤ maxLen) :
    Calls Tryz.prog 94 #[.string s] w fun e w' => e = .returned (.int .i64 (numSz s.data.toList : Nat)) ∧ Below w.heap.size w w' := by
  have HB := hid ((Below.refl _ w).alloc (Nat.le_refl _) (.cells #[.string s] 9))
  have HT := hid (Tryz.strings_TrimPrefix s ⟨#[46]⟩ (w.alloc (.cells #[.string s] 9)))
  have HS := hid (startsNum_trim s.data.toList)
  generalize hD : (⟨(Lib.trimPrefix s.data.toList (ByteArray.mk #[46]).data.toList).toArray⟩ : ByteArray) = D at HT
  have hDl : Lib.trimPrefix s.data.toList [46] = D.data.toList := by rw [← hD]
  have HS2 : Hid (startsNum s.data.toList = match D.data.toList with | [] => false | d :: _ => digB d) := by show _ = _; rw [HS.out, hDl]
  clear HS hDl hD
  by_cases h0 : D.size = 0
  · obtain rfl := empty_of h0
    have HE : Hid ((0 : Int) = (numSz s.data.toList : Nat)) := by show _ = _; unfold numSz; rw [HS2.out]; rfl
    clear h0
    go_enter Tryz.func94, Tryz.ntmps94
    go_wp2_with (go_at_call 113; refine HT.out.mono ?_; rintro e w' ⟨rfl, hww⟩; subst w')
    go_ret
    exact ⟨ret_int HE.out, HB.out⟩
  · have h1 : 1 ≤ D.size := by omega
    have he := isEmpty_false h1
    have hz : (0 : Int) < (D.size : Int) := by omega
    have HD := hid (fun W => Digit_any D[0] W)
    have HS3 : Hid (startsNum s.data.toList = digB D[0]) := by
      show _ = _
      rw [HS2.out]
      have h2 := size_data D
      rw [byte_at D 0 (by omega)]
      cases hdl : D.data.toList with
      | nil => rw [hdl] at h2; simp at h2; omega
      | cons d r => rfl
    cases hl : digB D[0] with
    | false =>
      rw [hl] at HD HS3
      have HE : Hid ((0 : Int) = (numSz s.data.toList : Nat)) := by show _ = _; unfold numSz; rw [HS3.out]; rfl
      clear hl h0 HS2
      go_enter Tryz.func94, Tryz.ntmps94
      go_wp2_with (first | (go_at_call 113; refine HT.out.mono ?_; rintro e w' ⟨rfl, hww⟩; subst w') | (go_at_call 114; refine (HD.out _).mono ?_; rintro e w' ⟨rfl, hww⟩; subst w'))
      go_ret
      exact ⟨ret_int HE.out, HB.out⟩
    | true =>
      rw [hl] at HD HS3
      have hs1 : 1 ≤ s.size := by
        by_cases hz : s.size = 0
        · obtain rfl := empty_of hz; have := HS3.out; cases this
        · omega
      have HSp := hid (span_any s 115 w.heap.size (numB s.data.toList) (w.alloc (.cells #[.string s] 9)) (enters_of Tryz.func115 (by kernel_rfl) rfl)
        (fun i h hi => numberSize1_any s w.heap.size i _ h hi hs (by rw [World.cell?_alloc_mark]; rfl)) hs1 hs)
      have HE : Hid (((spanN (numB s.data.toList) s.size : Nat) : Int) = (numSz s.data.toList : Nat)) := by show _ = _; unfold numSz; rw [HS3.out, size_data]; rfl
      clear hl h0 HS2
      go_enter Tryz.func94, Tryz.ntmps94
      go_wp2_with (first | (go_at_call 113; refine HT.out.mono ?_; rintro e w' ⟨rfl, hww⟩; subst w') | (go_at_call 114; refine (HD.out _).mono ?_; rintro e w' ⟨rfl, hww⟩; subst w') | (go_at_call 101; refine HSp.out.mono ?_; rintro e w' ⟨rfl, hww⟩; subst w'))
      go_ret
      exact ⟨ret_int HE.out, HB.out⟩
end Go.Proofs.YteklakpfbkcegaaGreatDoor
