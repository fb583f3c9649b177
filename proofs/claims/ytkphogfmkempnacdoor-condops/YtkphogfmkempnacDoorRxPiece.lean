/- Walk of the document's own Piece. -/
import Derived.Test.YtkphogfmkempnacDoorRxSign
namespace Go.Proofs.YtkphogfmkempnacDoor
open Go.RowKit Go.Shelf

theorem ext_of_take (s : ByteArray) (m n : Nat) (h : s.data.toList.take m = s.data.toList.take n) : s.extract 0 m = s.extract 0 n := by
  apply ByteArray.ext; apply Array.ext'; rw [extract_data, extract_data, List.drop_zero, List.drop_zero, h]
theorem ret_two {k k' : Int} {a b : ByteArray} (hk : k = k') (h : a = b) : Ending.returned (.tuple #[.int .i64 k, .string a]) = .returned (.tuple #[.int .i64 k', .string b]) := by rw [hk, h]

theorem name_end (l : List UInt8) (h0 : letB (byteAt l 0) = true) (k : Nat) (hk : k ≤ l.length) (hl : l ≠ []) (h1 : ∀ i, i < k → wordB (byteAt l i) = true) (h2 : k < l.length → wordB (byteAt l k) = false) : nameSz l = k := by
  have hw : wordB (byteAt l 0) = true := by simp [wordB, h0]
  have hp := List.length_pos_iff.2 hl
  have hk1 : 1 ≤ k := by
    rcases Nat.eq_zero_or_pos k with h | h
    · subst h; have := h2 hp; rw [hw] at this; cases this
    · exact h
  unfold nameSz
  rw [if_neg hl, if_pos h0]
  exact spanN_eq _ _ _ hk1 hk (fun i _ b => h1 i b) h2
theorem starts_at (s : ByteArray) (h1 : 1 ≤ s.size) : startsNum s.data.toList = (digB s[0] || (decide ((s[0].toNat : Int) = 46) && (if h : 1 < s.size then digB s[1] else false))) := by
  have e0 := byte_at s 0 (by omega)
  have hsz := size_data s
  have e1 : ∀ h : 1 < s.size, s[1] = byteAt s.data.toList 1 := fun h => byte_at s 1 h
  have h46 : (s[0] = 46) = ((s[0].toNat : Int) = 46) := u8i s[0] 46
  rw [show decide ((s[0].toNat : Int) = 46) = decide (s[0] = 46) by simp only [h46]]
  rw [e0]
  cases hl : s.data.toList with
  | nil => rw [hl] at hsz; simp at hsz; omega
  | cons c r =>
    have hc : byteAt (c :: r) 0 = c := rfl
    rw [hc]
    cases r with
    | nil =>
      have : ¬ (1 < s.size) := by rw [← hsz, hl]; simp
      rw [dif_neg this]
      by_cases h : c = 46 <;> simp [startsNum, h, digB]
    | cons d r =>
      have h2 : 1 < s.size := by rw [← hsz, hl]; simp
      rw [dif_pos h2, e1 h2, hl]
      have hd : byteAt (c :: d :: r) 1 = d := rfl
      rw [hd]
      by_cases h : c = 46
      · subst h; simp [startsNum, digB]
      · simp [startsNum, h]
theorem path_end (l : List UInt8) (k : Nat) (hk : k < l.length) (h1 : ∀ i, i < k → byteAt l i ≠ 62 ∧ byteAt l i ≠ 10) (h2 : byteAt l k = 62 ∨ byteAt l k = 10) : pathEnd l = k := by
  unfold pathEnd
  have hb : ∀ i (h : i < l.length), l[i] = byteAt l i := fun i h => (byteAt_eq l i _ (List.getElem?_eq_getElem h)).symm
  rw [List.findIdx_eq hk]
  refine ⟨?_, fun j hj => ?_⟩
  · rw [hb k hk]; rcases h2 with h | h <;> simp [h]
  · have := h1 j hj
    rw [hb j (by omega)]; simp [this.1, this.2]
theorem path_yes (l : List UInt8) (k : Nat) (hk : k < l.length) (h0 : byteAt l 0 = 60) (h1 : ∀ i, i < k → byteAt l i ≠ 62 ∧ byteAt l i ≠ 10) (h2 : byteAt l k = 62) : pathSz l = k + 1 := by
  have e := path_end l k hk h1 (.inl h2)
  have g : ∀ i, i < l.length → l[i]? = some (byteAt l i) := fun i h => by rw [List.getElem?_eq_getElem h, byteAt_eq l i _ (List.getElem?_eq_getElem h)]
  unfold pathSz
  rw [e, g 0 (by omega), g k hk, h0, h2, if_pos ⟨rfl, rfl⟩]
theorem path_feed (l : List UInt8) (k : Nat) (hk : k < l.length) (h1 : ∀ i, i < k → byteAt l i ≠ 62 ∧ byteAt l i ≠ 10) (h2 : byteAt l k = 10) : pathSz l = 0 := by
  have e := path_end l k hk h1 (.inr h2)
  have g : l[k]? = some (byteAt l k) := by rw [List.getElem?_eq_getElem hk, byteAt_eq l k _ (List.getElem?_eq_getElem hk)]
  unfold pathSz
  rw [e, g, h2, if_neg (fun h => by cases h.2)]
theorem path_none (l : List UInt8) (h1 : ∀ i, i < l.length → byteAt l i ≠ 62 ∧ byteAt l i ≠ 10) : pathSz l = 0 := by
  have e : pathEnd l = l.length := by
    unfold pathEnd
    rw [List.findIdx_eq_length]
    intro c hc
    obtain ⟨i, hi, rfl⟩ := List.getElem_of_mem hc
    have := h1 i hi
    rw [byteAt_eq l i _ (List.getElem?_eq_getElem hi)] at this
    simp [this.1, this.2]
  unfold pathSz
  rw [e, if_neg (fun h => by rw [List.getElem?_eq_none (Nat.le_refl _)] at h; cases h.2)]
theorem path_other (l : List UInt8) (h : byteAt l 0 ≠ 60) : pathSz l = 0 := by
  unfold pathSz
  rw [if_neg]
  rintro ⟨h0, _⟩
  exact h (byteAt_eq l 0 60 h0)

set_option maxRecDepth 100000 in
set_option maxHeartbeats 2000000 in
theorem RPiece_name (s : ByteArray) (path : Bool) (w : World) (hs : s.size ≤ 1048576) (h1 : 1 ≤ s.size) (hL : letB s[0] = true) :
    Calls Tryd.prog 22 #[.string s, .bool path] w fun e w' => e = .returned (.tuple #[.int .i64 (rpieceK s.data.toList path), .string (s.extract 0 (pick (sizes s.data.toList path)).2.toNat)]) ∧ Below w.heap.size w w' := by
  have hne : s.data.toList ≠ [] := fun e => by have := size_data s; rw [e] at this; simp at this; omega
  have hmx : s.size ≤ maxLen := by unfold maxLen; omega
  have E0 := hid (byte_at s 0 (by omega))
  have hz : (0 : Int) < (s.size : Int) := by omega
  have hz2 : 0 < s.size := by omega
  have HLc := hid (fun i (h : i < s.size) W => RLetter_any s[i] W)
  have HDc := hid (fun i (h : i < s.size) W => RDigit_any s[i] W)
  obtain ⟨p1, p2⟩ := piece_name s.data.toList path hne (by rw [← E0.out]; exact hL)
  have HK := hid p1
  have HT := hid (ext_of_take s _ _ p2)
  have HN := hid (name_end s.data.toList (by rw [← E0.out]; exact hL))
  rw [size_data] at HN
  have HL0 := hid (RLetter_any s[0] w)
  rw [hL] at HL0
  generalize nameSz s.data.toList = m at HT HN
  generalize pick (sizes s.data.toList path) = pk at HT ⊢
  generalize rpieceK s.data.toList path = kk at HK ⊢
  clear p1 p2 hL
  go_enter Tryd.func22, Tryd.ntmps22
  go_wp2_with (go_at_call 35; refine HL0.out.mono ?_; rintro e w' ⟨rfl, hww⟩; subst w')
  clear HL0
  go_loop [7] (fun x => ∃ k : Nat, k ≤ s.size ∧ x = .int .i64 k ∧ Hid (∀ j, j < k → wordB (byteAt s.data.toList j) = true)) (fun x => s.size - (intOf x).toNat)
  case atStart => exact ⟨0, Nat.zero_le _, rfl, fun j hj => by omega⟩
  case round =>
    obtain ⟨k, hk, rfl, HR⟩ := hrel
    by_cases hlt : k < s.size
    · have HL := hid (HLc.out k hlt w)
      have HD := hid (HDc.out k hlt w)
      have HY := hid (fun h : wordB (byteAt s.data.toList k) = true => upto_snoc (q := fun j => wordB (byteAt s.data.toList j) = true) HR.out h)
      have HS := hid (fun h : wordB (byteAt s.data.toList k) = false => HN.out k hk hne HR.out (fun _ => h))
      rw [← byte_at s k hlt, wordB] at HY HS
      generalize letB s[k] = bl at HL HY HS
      generalize digB s[k] = bd at HD HY HS
      clear HR HN HLc HDc
      cases bl with
      | true =>
        have HY2 := hid (HY.out (by simp))
        clear HY HS
        go_wp2_with (first | (go_at_call 35; refine HL.out.mono ?_; rintro e w' ⟨rfl, hww⟩; subst w') | (go_at_call 36; refine HD.out.mono ?_; rintro e w' ⟨rfl, hww⟩; subst w'))
        exact ⟨⟨k + 1, by omega, by go_num, HY2.out⟩, by simp [intOf]; omega⟩
      | false =>
        cases bd with
        | true =>
          have HY2 := hid (HY.out (by simp))
          clear HY HS
          go_wp2_with (first | (go_at_call 35; refine HL.out.mono ?_; rintro e w' ⟨rfl, hww⟩; subst w') | (go_at_call 36; refine HD.out.mono ?_; rintro e w' ⟨rfl, hww⟩; subst w'))
          exact ⟨⟨k + 1, by omega, by go_num, HY2.out⟩, by simp [intOf]; omega⟩
        | false =>
          have HS2 := hid (HS.out (by simp))
          clear HY HS
          go_wp2_with (first | (go_at_call 35; refine HL.out.mono ?_; rintro e w' ⟨rfl, hww⟩; subst w') | (go_at_call 36; refine HD.out.mono ?_; rintro e w' ⟨rfl, hww⟩; subst w'))
          go_quiet (fail)
          go_wp2
          go_ret2
          exact ⟨ret_two HK.out.symm (by rw [HT.out, HS2.out]), below_drewN (Below.refl _ _) _⟩
    · have HS2 := hid (HN.out k hk hne HR.out (fun h => by omega))
      clear HR HN HLc HDc
      go_wp2_with fail
      go_quiet (fail)
      go_wp2
      go_ret2
      exact ⟨ret_two HK.out.symm (by rw [HT.out, HS2.out]), below_drewN (Below.refl _ _) _⟩

set_option maxRecDepth 100000 in
set_option maxHeartbeats 2000000 in
theorem RPiece_num (s : ByteArray) (path : Bool) (w : World) (hs : s.size ≤ 1048576) (h1 : 1 ≤ s.size) (hL : letB s[0] = false) (hsn : startsNum s.data.toList = true) :
    Calls Tryd.prog 22 #[.string s, .bool path] w fun e w' => e = .returned (.tuple #[.int .i64 (rpieceK s.data.toList path), .string (s.extract 0 (pick (sizes s.data.toList path)).2.toNat)]) ∧ Below w.heap.size w w' := by
  have hne : s.data.toList ≠ [] := fun e => by have := size_data s; rw [e] at this; simp at this; omega
  have hmx : s.size ≤ maxLen := by unfold maxLen; omega
  have E0 := hid (byte_at s 0 (by omega))
  have hz : (0 : Int) < (s.size : Int) := by omega
  have hz2 : 0 < s.size := by omega
  have hL0 : letB (byteAt s.data.toList 0) = false := by rw [← E0.out]; exact hL
  have HL0 := hid (RLetter_any s[0] w)
  rw [hL] at HL0
  have HSt := hid (starts_at s h1)
  obtain ⟨p1, p2⟩ := piece_num s.data.toList path hne hL0 hsn
  have HK := hid p1
  have HT := hid (ext_of_take s _ _ p2)
  have HN := hid (fun W => RNumber_any s W hmx hsn)
  rw [hsn] at HSt
  generalize numSz s.data.toList = m at HT HN
  generalize pick (sizes s.data.toList path) = pk at HT ⊢
  generalize rpieceK s.data.toList path = kk at HK ⊢
  clear p1 p2 hL hsn hL0
  cases hD : digB s[0] with
  | true =>
    have HD0 := hid (RDigit_any s[0] w)
    rw [hD] at HD0
    clear hD HSt
    go_enter Tryd.func22, Tryd.ntmps22
    go_wp2_with (first | (go_at_call 35; refine HL0.out.mono ?_; rintro e w' ⟨rfl, hww⟩; subst w') | (go_at_call 36; refine HD0.out.mono ?_; rintro e w' ⟨rfl, hww⟩; subst w'))
    refine (HN.out _).mono ?_
    rintro e wN ⟨rfl, hbN⟩
    have HBN := hid hbN
    clear HN hbN
    go_wp2_with fail
    go_ret2
    exact ⟨ret_two HK.out.symm (by rw [HT.out]), HBN.out⟩
  | false =>
    have HD0 := hid (RDigit_any s[0] w)
    rw [hD] at HD0
    have hq := HSt.out
    rw [hD, Bool.false_or] at hq
    by_cases hs2 : 1 < s.size
    · rw [dif_pos hs2] at hq
      have hq1 : (s[0].toNat : Int) = 46 ∧ digB s[1] = true := by simpa using hq.symm
      have HD1 := hid (RDigit_any s[1] w)
      rw [hq1.2] at HD1
      have n46 : ((s[0].toNat : Int) == 46) = true := by simpa using hq1.1
      have hs3 : (1 : Int) < (s.size : Int) := by omega
      clear hD HSt hq hq1
      go_enter Tryd.func22, Tryd.ntmps22
      go_wp2_with fail
      refine HL0.out.mono ?_
      rintro e w' ⟨rfl, hww⟩
      subst w'
      clear HL0
      go_wp2_with fail
      refine HD0.out.mono ?_
      rintro e w' ⟨rfl, hww⟩
      subst w'
      clear HD0
      go_wp2_with fail
      refine HD1.out.mono ?_
      rintro e w' ⟨rfl, hww⟩
      subst w'
      clear HD1
      go_wp2_with fail
      refine (HN.out _).mono ?_
      rintro e wN ⟨rfl, hbN⟩
      have HBN := hid hbN
      clear HN hbN
      go_wp2_with fail
      go_ret2
      exact ⟨ret_two HK.out.symm (by rw [HT.out]), HBN.out⟩
    · rw [dif_neg hs2] at hq; simp at hq
end Go.Proofs.YtkphogfmkempnacDoor
