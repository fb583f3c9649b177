/- Walk of the document's own Piece: a path; all of it. -/
import Derived.Test.YtkphogfmkempnacDoorRxPieceB
namespace Go.Proofs.YtkphogfmkempnacDoor
open Go.RowKit Go.Shelf

set_option maxRecDepth 100000 in
set_option maxHeartbeats 2000000 in
theorem RPiece_path (s : ByteArray) (w : World) (hs : s.size ≤ 1048576) (h1 : 1 ≤ s.size) (hL : letB s[0] = false) (hsn : startsNum s.data.toList = false) (h60 : (s[0].toNat : Int) = 60) :
    Calls Tryd.prog 22 #[.string s, .bool true] w fun e w' => e = .returned (.tuple #[.int .i64 (rpieceK s.data.toList true), .string (s.extract 0 (pick (sizes s.data.toList true)).2.toNat)]) ∧ Below w.heap.size w w' := by
  have hmx : s.size ≤ maxLen := by unfold maxLen; omega
  have hz : (0 : Int) < (s.size : Int) := by omega
  have hz2 : 0 < s.size := by omega
  have HL0 := hid (RLetter_any s[0] w)
  rw [hL] at HL0
  have HQ2 := hid (starts_no s h1 hsn)
  have HD0 := hid (RDigit_any s[0] w)
  rw [HQ2.out.1] at HD0
  have hb0 : byteAt s.data.toList 0 = 60 := (byte_int s 0 (by omega) 60).2 h60
  have HPost := hid (fun hp => sign_post s true h1 hL hsn (by rw [h60]; decide) (by rw [h60]; decide) hp)
  have HPath := hid (piece_path s.data.toList (by rw [← byte_at s 0 (by omega)]; exact hL) hsn (by rw [hb0]; decide) (by rw [hb0]; decide))
  have HB0 := hid hb0
  have HSi := hid (fun W => RSign_any s W hmx)
  have n46 : ((s[0].toNat : Int) == 46) = false := by rw [h60]; rfl
  have n34 : ((s[0].toNat : Int) == 34) = false := by rw [h60]; rfl
  have n39 : ((s[0].toNat : Int) == 39) = false := by rw [h60]; rfl
  have n60 : ((s[0].toNat : Int) == 60) = true := by rw [h60]; rfl
  clear hb0 h60 HQ2 hL hsn
  go_enter Tryd.func22, Tryd.ntmps22
  go_wp2_with fail
  refine HL0.out.mono ?_
  rintro e w' ⟨rfl, hww⟩
  subst w'
  clear HL0
  go_wp2_with fail
  refine HD0.out.mono ?_
  rintro e w' ⟨rfl, hww⟩
  subst w'
  clear HD0
  go_wp2_with fail
  go_loop [8] (fun x => ∃ k : Nat, 1 ≤ k ∧ k ≤ s.size ∧ x = .int .i64 k ∧ Hid (∀ j, j < k → byteAt s.data.toList j ≠ 62 ∧ byteAt s.data.toList j ≠ 10)) (fun x => s.size - (intOf x).toNat)
  case atStart => exact ⟨1, by omega, h1, rfl, fun j hj => by rw [show j = 0 by omega, HB0.out]; decide⟩
  case round =>
    obtain ⟨k, hk1, hk, rfl, HR⟩ := hrel
    by_cases hlt : k < s.size
    · by_cases h10 : (s[k].toNat : Int) = 10
      · obtain ⟨X, kk, m, p1, p2, p3, p4⟩ := HPost.out (fun _ => path_feed _ k (by rw [size_data]; exact hlt) HR.out ((byte_int s k hlt 10).2 h10))
        have HK := hid p1
        have HT := hid p2
        rw [p3] at HSi
        have m10 : ((s[k].toNat : Int) != 10) = false := by simp [h10]
        clear p1 p2 p3 HPost HPath HB0 HR n46 n34 n39 n60 h10
        rcases p4 with ⟨rfl, rfl, rfl⟩ | ⟨hX, rfl, hXo⟩
        · go_wp2_with fail
          refine (HSi.out _).mono ?_
          rintro e wS ⟨rfl, hbS⟩
          have HBn := hid (fun n => below_drewN hbS n)
          clear HSi hbS
          go_wp2_with fail
          go_quiet (fail)
          go_wp2
          go_ret2
          exact ⟨ret_two HK.out.symm (by rw [HT.out]), HBn.out _⟩
        · have HXe := hid hXo; clear hXo
          go_wp2_with fail
          refine (HSi.out _).mono ?_
          rintro e wS ⟨rfl, hbS⟩
          have HBS := hid hbS
          clear HSi hbS
          go_wp2_with fail
          go_ret2
          exact ⟨ret_two HK.out.symm (by rw [HT.out, ← HXe.out]), HBS.out⟩
      · have m10 : ((s[k].toNat : Int) != 10) = true := by simpa using h10
        by_cases h62 : (s[k].toNat : Int) = 62
        · have hy := path_yes _ k (by rw [size_data]; exact hlt) HB0.out HR.out ((byte_int s k hlt 62).2 h62)
          obtain ⟨p1, p2⟩ := HPath.out (by omega)
          rw [hy] at p2
          have HK := hid p1
          have HT := hid (ext_of_take s _ _ p2)
          have m62 : ((s[k].toNat : Int) == 62) = true := by simpa using h62
          clear p1 p2 HPost HPath HB0 HR n46 n34 n39 n60 h10 hy HSi h62
          go_wp2_with fail
          go_quiet (fail)
          go_wp2
          go_ret2
          exact ⟨ret_two HK.out.symm (by rw [HT.out]), below_drewN (Below.refl _ _) _⟩
        · have HR2 : Hid (∀ j, j < k + 1 → byteAt s.data.toList j ≠ 62 ∧ byteAt s.data.toList j ≠ 10) :=
            upto_snoc (q := fun j => byteAt s.data.toList j ≠ 62 ∧ byteAt s.data.toList j ≠ 10) HR.out ⟨fun e => h62 ((byte_int s k hlt 62).1 e), fun e => h10 ((byte_int s k hlt 10).1 e)⟩
          have m62 : ((s[k].toNat : Int) == 62) = false := by simpa using h62
          clear HPost HPath HB0 HR n46 n34 n39 n60 h10 HSi h62
          go_wp2_with fail
          exact ⟨⟨k + 1, by omega, by omega, by go_num, HR2.out⟩, by simp [intOf]; omega⟩
    · obtain ⟨X, kk, m, p1, p2, p3, p4⟩ := HPost.out (fun _ => path_none _ (fun i hi => HR.out i (by rw [size_data] at hi; omega)))
      have HK := hid p1
      have HT := hid p2
      rw [p3] at HSi
      clear p1 p2 p3 HPost HPath HB0 HR n46 n34 n39 n60
      rcases p4 with ⟨rfl, rfl, rfl⟩ | ⟨hX, rfl, hXo⟩
      · go_wp2_with fail
        refine (HSi.out _).mono ?_
        rintro e wS ⟨rfl, hbS⟩
        have HBn := hid (fun n => below_drewN hbS n)
        clear HSi hbS
        go_wp2_with fail
        go_quiet (fail)
        go_wp2
        go_ret2
        exact ⟨ret_two HK.out.symm (by rw [HT.out]), HBn.out _⟩
      · have HXe := hid hXo; clear hXo
        go_wp2_with fail
        refine (HSi.out _).mono ?_
        rintro e wS ⟨rfl, hbS⟩
        have HBS := hid hbS
        clear HSi hbS
        go_wp2_with fail
        go_ret2
        exact ⟨ret_two HK.out.symm (by rw [HT.out, ← HXe.out]), HBS.out⟩

theorem RPiece_any (s : ByteArray) (path : Bool) (w : World) (hs : s.size ≤ 1048576) (h1 : 1 ≤ s.size) :
    Calls Tryd.prog 22 #[.string s, .bool path] w fun e w' => e = .returned (.tuple #[.int .i64 (rpieceK s.data.toList path), .string (s.extract 0 (pick (sizes s.data.toList path)).2.toNat)]) ∧ Below w.heap.size w w' := by
  cases hL : letB s[0] with
  | true => exact RPiece_name s path w hs h1 hL
  | false =>
    cases hsn : startsNum s.data.toList with
    | true => exact RPiece_num s path w hs h1 hL hsn
    | false =>
      by_cases h46 : (s[0].toNat : Int) = 46
      · exact RPiece_dot s path w hs h1 hL hsn h46
      by_cases h34 : (s[0].toNat : Int) = 34
      · exact RPiece_quot s path w hs h1 hL hsn (.inl h34)
      by_cases h39 : (s[0].toNat : Int) = 39
      · exact RPiece_quot s path w hs h1 hL hsn (.inr h39)
      by_cases h60 : (s[0].toNat : Int) = 60 ∧ path = true
      · obtain ⟨h60, rfl⟩ := h60
        exact RPiece_path s w hs h1 hL hsn h60
      · exact RPiece_sign s path w hs h1 hL hsn h46 h34 h39 h60
end Go.Proofs.YtkphogfmkempnacDoor
