/- Walk of the document's own Piece: what is quoted, paths, signs; all of it. -/
import Derived.Test.YtkphogfmkempnacDoorRxPiece
namespace Go.Proofs.YtkphogfmkempnacDoor
open Go.RowKit Go.Shelf

theorem starts_no (s : ByteArray) (h1 : 1 ≤ s.size) (h : startsNum s.data.toList = false) : digB s[0] = false ∧ ((s[0].toNat : Int) = 46 → ∀ h : 1 < s.size, digB s[1] = false) := by
  have hq3 := starts_at s h1
  rw [h] at hq3
  have hq3 := hq3.symm
  rw [Bool.or_eq_false_iff] at hq3
  refine ⟨hq3.1, fun h46 h => ?_⟩
  have := hq3.2
  rw [decide_eq_true h46, dif_pos h, Bool.true_and] at this
  exact this

/-- What is said where a sign, or one other byte, stands. -/
def SignPost (s : ByteArray) (path : Bool) : Prop := ∃ (X : ByteArray) (k : Int) (m : Nat), rpieceK s.data.toList path = k ∧ s.extract 0 (pick (sizes s.data.toList path)).2.toNat = s.extract 0 m ∧ s.extract 0 (signSz s.data.toList) = X ∧ ((X = ⟨#[]⟩ ∧ k = 6 ∧ m = 1) ∨ (X.toList.isEmpty = false ∧ k = 5 ∧ X = s.extract 0 m))
theorem sign_post (s : ByteArray) (path : Bool) (h1 : 1 ≤ s.size) (hL : letB s[0] = false) (hsn : startsNum s.data.toList = false) (h34 : ¬ (s[0].toNat : Int) = 34) (h39 : ¬ (s[0].toNat : Int) = 39) (hp : path = true → pathSz s.data.toList = 0) : SignPost s path := by
  have hL0 : letB (byteAt s.data.toList 0) = false := by rw [← byte_at s 0 (by omega)]; exact hL
  obtain ⟨a1, a2⟩ := piece_sign s.data.toList path hL0 hsn (fun e => h34 ((byte_int s 0 (by omega) 34).1 e)) (fun e => h39 ((byte_int s 0 (by omega) 39).1 e)) hp
  by_cases hz : signSz s.data.toList = 0
  · obtain ⟨b1, b2⟩ := a2 hz
    exact ⟨⟨#[]⟩, 6, 1, b1, ext_of_take s _ _ b2, by rw [hz, extract_zero], .inl ⟨rfl, rfl, rfl⟩⟩
  · obtain ⟨b1, b2⟩ := a1 (by omega)
    have hle := signSz_le s.data.toList
    rw [size_data] at hle
    exact ⟨_, 5, _, b1, ext_of_take s _ _ b2, rfl, .inr ⟨isEmpty_false (by rw [ByteArray.size_extract]; omega), rfl, rfl⟩⟩

set_option maxRecDepth 100000 in
set_option maxHeartbeats 2000000 in
theorem RPiece_dot (s : ByteArray) (path : Bool) (w : World) (hs : s.size ≤ 1048576) (h1 : 1 ≤ s.size) (hL : letB s[0] = false) (hsn : startsNum s.data.toList = false) (h46 : (s[0].toNat : Int) = 46) :
    Calls Tryd.prog 22 #[.string s, .bool path] w fun e w' => e = .returned (.tuple #[.int .i64 (rpieceK s.data.toList path), .string (s.extract 0 (pick (sizes s.data.toList path)).2.toNat)]) ∧ Below w.heap.size w w' := by
  have hne : s.data.toList ≠ [] := fun e => by have := size_data s; rw [e] at this; simp at this; omega
  have hmx : s.size ≤ maxLen := by unfold maxLen; omega
  have E0 := hid (byte_at s 0 (by omega))
  have hz : (0 : Int) < (s.size : Int) := by omega
  have hz2 : 0 < s.size := by omega
  have HL0 := hid (RLetter_any s[0] w)
  rw [hL] at HL0
  have HQ2 := hid (starts_no s h1 hsn)
  have HD0 := hid (RDigit_any s[0] w)
  rw [HQ2.out.1] at HD0
  have hpost := sign_post s path h1 hL hsn (by rw [h46]; decide) (by rw [h46]; decide) (fun _ => path_other _ (fun e => by have := (byte_int s 0 (by omega) 60).1 e; rw [h46] at this; revert this; decide))
  have HSi := hid (fun W => RSign_any s W hmx)
  obtain ⟨X, kk, m, p1, p2, p3, p4⟩ := hpost
  have HK := hid p1
  have HT := hid p2
  rw [p3] at HSi
  generalize pick (sizes s.data.toList path) = pk at HT ⊢
  generalize rpieceK s.data.toList path = kk' at HK ⊢
  clear p1 p2 p3
  have n46 : ((s[0].toNat : Int) == 46) = true := by simpa using h46
  have n34 : ((s[0].toNat : Int) == 34) = false := by rw [h46]; rfl
  have n39 : ((s[0].toNat : Int) == 39) = false := by rw [h46]; rfl
  have n60 : ((s[0].toNat : Int) == 60) = false := by rw [h46]; rfl
  have HQ3 := hid (HQ2.out.2 h46)
  clear HQ2 E0 h46 hsn hL
  by_cases hs2 : 1 < s.size
  · have HD1 := hid (RDigit_any s[1] w)
    rw [HQ3.out hs2] at HD1
    have hs3 : (1 : Int) < (s.size : Int) := by omega
    clear HQ3
    rcases p4 with ⟨rfl, rfl, rfl⟩ | ⟨hX, rfl, hXo⟩
    · go_enter Tryd.func22, Tryd.ntmps22
      go_wp2_with fail
      refine HL0.out.mono ?_
      rintro e w' ⟨rfl, hww⟩
      subst w'
      clear HL0
      go_wp2_with fail
      refine HD0.out.mono ?_
      rintro e w' ⟨rfl, hww⟩
      subst w'
      clear HD0
      go_wp2_with fail
      refine HD1.out.mono ?_
      rintro e w' ⟨rfl, hww⟩
      subst w'
      clear HD1
      go_wp2_with fail
      refine (HSi.out _).mono ?_
      rintro e wS ⟨rfl, hbS⟩
      have HBS := hid hbS
      have HBn := hid (fun n => below_drewN HBS.out n)
      clear HSi hbS
      go_wp2_with fail
      first | go_quiet (fail) | skip
      first | go_wp2 | skip
      go_ret2
      exact ⟨ret_two HK.out.symm (by rw [HT.out]), by first | exact HBn.out _ | exact HBS.out⟩
    · have HXe := hid hXo; clear hXo
      go_enter Tryd.func22, Tryd.ntmps22
      go_wp2_with fail
      refine HL0.out.mono ?_
      rintro e w' ⟨rfl, hww⟩
      subst w'
      clear HL0
      go_wp2_with fail
      refine HD0.out.mono ?_
      rintro e w' ⟨rfl, hww⟩
      subst w'
      clear HD0
      go_wp2_with fail
      refine HD1.out.mono ?_
      rintro e w' ⟨rfl, hww⟩
      subst w'
      clear HD1
      go_wp2_with fail
      refine (HSi.out _).mono ?_
      rintro e wS ⟨rfl, hbS⟩
      have HBS := hid hbS
      have HBn := hid (fun n => below_drewN HBS.out n)
      clear HSi hbS
      go_wp2_with fail
      first | go_quiet (fail) | skip
      first | go_wp2 | skip
      go_ret2
      exact ⟨ret_two HK.out.symm (by rw [HT.out, ← HXe.out]), by first | exact HBn.out _ | exact HBS.out⟩
  · have hs3 : ¬ ((1 : Int) < (s.size : Int)) := by omega
    clear HQ3
    rcases p4 with ⟨rfl, rfl, rfl⟩ | ⟨hX, rfl, hXo⟩
    · go_enter Tryd.func22, Tryd.ntmps22
      go_wp2_with fail
      refine HL0.out.mono ?_
      rintro e w' ⟨rfl, hww⟩
      subst w'
      clear HL0
      go_wp2_with fail
      refine HD0.out.mono ?_
      rintro e w' ⟨rfl, hww⟩
      subst w'
      clear HD0
      go_wp2_with fail
      refine (HSi.out _).mono ?_
      rintro e wS ⟨rfl, hbS⟩
      have HBS := hid hbS
      have HBn := hid (fun n => below_drewN HBS.out n)
      clear HSi hbS
      go_wp2_with fail
      first | go_quiet (fail) | skip
      first | go_wp2 | skip
      go_ret2
      exact ⟨ret_two HK.out.symm (by rw [HT.out]), by first | exact HBn.out _ | exact HBS.out⟩
    · have HXe := hid hXo; clear hXo
      go_enter Tryd.func22, Tryd.ntmps22
      go_wp2_with fail
      refine HL0.out.mono ?_
      rintro e w' ⟨rfl, hww⟩
      subst w'
      clear HL0
      go_wp2_with fail
      refine HD0.out.mono ?_
      rintro e w' ⟨rfl, hww⟩
      subst w'
      clear HD0
      go_wp2_with fail
      refine (HSi.out _).mono ?_
      rintro e wS ⟨rfl, hbS⟩
      have HBS := hid hbS
      have HBn := hid (fun n => below_drewN HBS.out n)
      clear HSi hbS
      go_wp2_with fail
      first | go_quiet (fail) | skip
      first | go_wp2 | skip
      go_ret2
      exact ⟨ret_two HK.out.symm (by rw [HT.out, ← HXe.out]), by first | exact HBn.out _ | exact HBS.out⟩

set_option maxRecDepth 100000 in
set_option maxHeartbeats 2000000 in
theorem RPiece_sign (s : ByteArray) (path : Bool) (w : World) (hs : s.size ≤ 1048576) (h1 : 1 ≤ s.size) (hL : letB s[0] = false) (hsn : startsNum s.data.toList = false) (h46 : ¬ (s[0].toNat : Int) = 46) (h34 : ¬ (s[0].toNat : Int) = 34) (h39 : ¬ (s[0].toNat : Int) = 39) (h60 : ¬ ((s[0].toNat : Int) = 60 ∧ path = true)) :
    Calls Tryd.prog 22 #[.string s, .bool path] w fun e w' => e = .returned (.tuple #[.int .i64 (rpieceK s.data.toList path), .string (s.extract 0 (pick (sizes s.data.toList path)).2.toNat)]) ∧ Below w.heap.size w w' := by
  have hne : s.data.toList ≠ [] := fun e => by have := size_data s; rw [e] at this; simp at this; omega
  have hmx : s.size ≤ maxLen := by unfold maxLen; omega
  have E0 := hid (byte_at s 0 (by omega))
  have hz : (0 : Int) < (s.size : Int) := by omega
  have hz2 : 0 < s.size := by omega
  have HL0 := hid (RLetter_any s[0] w)
  rw [hL] at HL0
  have HQ2 := hid (starts_no s h1 hsn)
  have HD0 := hid (RDigit_any s[0] w)
  rw [HQ2.out.1] at HD0
  have hpost := sign_post s path h1 hL hsn h34 h39 (fun hp => path_other _ (fun e => h60 ⟨(byte_int s 0 (by omega) 60).1 e, hp⟩))
  have HSi := hid (fun W => RSign_any s W hmx)
  obtain ⟨X, kk, m, p1, p2, p3, p4⟩ := hpost
  have HK := hid p1
  have HT := hid p2
  rw [p3] at HSi
  generalize pick (sizes s.data.toList path) = pk at HT ⊢
  generalize rpieceK s.data.toList path = kk' at HK ⊢
  clear p1 p2 p3
  have n46 : ((s[0].toNat : Int) == 46) = false := by simpa using h46
  have n34 : ((s[0].toNat : Int) == 34) = false := by simpa using h34
  have n39 : ((s[0].toNat : Int) == 39) = false := by simpa using h39
  clear HQ2 E0 h46 hsn hL h34 h39
  by_cases h6 : (s[0].toNat : Int) = 60
  · have n60 : ((s[0].toNat : Int) == 60) = true := by simpa using h6
    have hpf : path = false := by cases path; rfl; exact absurd ⟨h6, rfl⟩ h60
    subst hpf
    clear h6 h60
    rcases p4 with ⟨rfl, rfl, rfl⟩ | ⟨hX, rfl, hXo⟩
    · go_enter Tryd.func22, Tryd.ntmps22
      go_wp2_with fail
      refine HL0.out.mono ?_
      rintro e w' ⟨rfl, hww⟩
      subst w'
      clear HL0
      go_wp2_with fail
      refine HD0.out.mono ?_
      rintro e w' ⟨rfl, hww⟩
      subst w'
      clear HD0
      go_wp2_with fail
      refine (HSi.out _).mono ?_
      rintro e wS ⟨rfl, hbS⟩
      have HBS := hid hbS
      have HBn := hid (fun n => below_drewN HBS.out n)
      clear HSi hbS
      go_wp2_with fail
      first | go_quiet (fail) | skip
      first | go_wp2 | skip
      go_ret2
      exact ⟨ret_two HK.out.symm (by rw [HT.out]), by first | exact HBn.out _ | exact HBS.out⟩
    · have HXe := hid hXo; clear hXo
      go_enter Tryd.func22, Tryd.ntmps22
      go_wp2_with fail
      refine HL0.out.mono ?_
      rintro e w' ⟨rfl, hww⟩
      subst w'
      clear HL0
      go_wp2_with fail
      refine HD0.out.mono ?_
      rintro e w' ⟨rfl, hww⟩
      subst w'
      clear HD0
      go_wp2_with fail
      refine (HSi.out _).mono ?_
      rintro e wS ⟨rfl, hbS⟩
      have HBS := hid hbS
      have HBn := hid (fun n => below_drewN HBS.out n)
      clear HSi hbS
      go_wp2_with fail
      first | go_quiet (fail) | skip
      first | go_wp2 | skip
      go_ret2
      exact ⟨ret_two HK.out.symm (by rw [HT.out, ← HXe.out]), by first | exact HBn.out _ | exact HBS.out⟩
  · have n60 : ((s[0].toNat : Int) == 60) = false := by simpa using h6
    clear h6 h60
    rcases p4 with ⟨rfl, rfl, rfl⟩ | ⟨hX, rfl, hXo⟩
    · go_enter Tryd.func22, Tryd.ntmps22
      go_wp2_with fail
      refine HL0.out.mono ?_
      rintro e w' ⟨rfl, hww⟩
      subst w'
      clear HL0
      go_wp2_with fail
      refine HD0.out.mono ?_
      rintro e w' ⟨rfl, hww⟩
      subst w'
      clear HD0
      go_wp2_with fail
      refine (HSi.out _).mono ?_
      rintro e wS ⟨rfl, hbS⟩
      have HBS := hid hbS
      have HBn := hid (fun n => below_drewN HBS.out n)
      clear HSi hbS
      go_wp2_with fail
      first | go_quiet (fail) | skip
      first | go_wp2 | skip
      go_ret2
      exact ⟨ret_two HK.out.symm (by rw [HT.out]), by first | exact HBn.out _ | exact HBS.out⟩
    · have HXe := hid hXo; clear hXo
      go_enter Tryd.func22, Tryd.ntmps22
      go_wp2_with fail
      refine HL0.out.mono ?_
      rintro e w' ⟨rfl, hww⟩
      subst w'
      clear HL0
      go_wp2_with fail
      refine HD0.out.mono ?_
      rintro e w' ⟨rfl, hww⟩
      subst w'
      clear HD0
      go_wp2_with fail
      refine (HSi.out _).mono ?_
      rintro e wS ⟨rfl, hbS⟩
      have HBS := hid hbS
      have HBn := hid (fun n => below_drewN HBS.out n)
      clear HSi hbS
      go_wp2_with fail
      first | go_quiet (fail) | skip
      first | go_wp2 | skip
      go_ret2
      exact ⟨ret_two HK.out.symm (by rw [HT.out, ← HXe.out]), by first | exact HBn.out _ | exact HBS.out⟩

set_option maxRecDepth 100000 in
set_option maxHeartbeats 2000000 in
theorem RPiece_quot (s : ByteArray) (path : Bool) (w : World) (hs : s.size ≤ 1048576) (h1 : 1 ≤ s.size) (hL : letB s[0] = false) (hsn : startsNum s.data.toList = false) (hq : (s[0].toNat : Int) = 34 ∨ (s[0].toNat : Int) = 39) :
    Calls Tryd.prog 22 #[.string s, .bool path] w fun e w' => e = .returned (.tuple #[.int .i64 (rpieceK s.data.toList path), .string (s.extract 0 (pick (sizes s.data.toList path)).2.toNat)]) ∧ Below w.heap.size w w' := by
  have hne : s.data.toList ≠ [] := fun e => by have := size_data s; rw [e] at this; simp at this; omega
  have hmx : s.size ≤ maxLen := by unfold maxLen; omega
  have E0 := hid (byte_at s 0 (by omega))
  have hz : (0 : Int) < (s.size : Int) := by omega
  have hz2 : 0 < s.size := by omega
  have HL0 := hid (RLetter_any s[0] w)
  rw [hL] at HL0
  have HQ2 := hid (starts_no s h1 hsn)
  have HD0 := hid (RDigit_any s[0] w)
  rw [HQ2.out.1] at HD0
  clear HQ2
  rcases hq with h | h
  · obtain ⟨p1, p2⟩ := piece_text s.data.toList path hne ((byte_int s 0 (by omega) 34).2 h)
    have HK := hid p1
    have HT := hid (ext_of_take s _ _ p2)
    have HN := hid (fun W => RQuoted_any s 34 W hmx h1 h)
    generalize (quotSz 34 s.data.toList).toNat = m at HT HN
    generalize pick (sizes s.data.toList path) = pk at HT ⊢
    generalize rpieceK s.data.toList path = kk at HK ⊢
    have n46 : ((s[0].toNat : Int) == 46) = false := by rw [h]; rfl
    have n34 : ((s[0].toNat : Int) == 34) = true := by rw [h]; rfl
    clear p1 p2 hsn hL h E0
    go_enter Tryd.func22, Tryd.ntmps22
    go_wp2_with fail
    refine HL0.out.mono ?_
    rintro e w' ⟨rfl, hww⟩
    subst w'
    clear HL0
    go_wp2_with fail
    refine HD0.out.mono ?_
    rintro e w' ⟨rfl, hww⟩
    subst w'
    clear HD0
    go_wp2_with fail
    refine (HN.out _).mono ?_
    rintro e wN ⟨rfl, hbN⟩
    have HBN := hid hbN
    clear HN hbN
    go_wp2_with fail
    go_ret2
    exact ⟨ret_two HK.out.symm (by rw [HT.out]), HBN.out⟩
  · obtain ⟨p1, p2⟩ := piece_char s.data.toList path hne ((byte_int s 0 (by omega) 39).2 h)
    have HK := hid p1
    have HT := hid (ext_of_take s _ _ p2)
    have HN := hid (fun W => RQuoted_any s 39 W hmx h1 h)
    generalize (quotSz 39 s.data.toList).toNat = m at HT HN
    generalize pick (sizes s.data.toList path) = pk at HT ⊢
    generalize rpieceK s.data.toList path = kk at HK ⊢
    have n46 : ((s[0].toNat : Int) == 46) = false := by rw [h]; rfl
    have n34 : ((s[0].toNat : Int) == 34) = false := by rw [h]; rfl
    have n39 : ((s[0].toNat : Int) == 39) = true := by rw [h]; rfl
    clear p1 p2 hsn hL h E0
    go_enter Tryd.func22, Tryd.ntmps22
    go_wp2_with fail
    refine HL0.out.mono ?_
    rintro e w' ⟨rfl, hww⟩
    subst w'
    clear HL0
    go_wp2_with fail
    refine HD0.out.mono ?_
    rintro e w' ⟨rfl, hww⟩
    subst w'
    clear HD0
    go_wp2_with fail
    refine (HN.out _).mono ?_
    rintro e wN ⟨rfl, hbN⟩
    have HBN := hid hbN
    clear HN hbN
    go_wp2_with fail
    go_ret2
    exact ⟨ret_two HK.out.symm (by rw [HT.out]), HBN.out⟩
end Go.Proofs.YtkphogfmkempnacDoor
