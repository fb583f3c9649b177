/- Walks of the document's own Signs and Sign. · Walk of the document's own Piece. · Walk of the document's own Piece: what is quoted, paths, signs; all of it. · Walk of the document's own Piece: a path; all of it. · Walk of the document's own Skip. -/
import Derived.Test.YtkfbhknhjpmomaaRxWord
import Derived.Test.YtkfbhknhjpmomaaLxC
namespace Go.Proofs.Ytkfbhknhjpmomaa
section
open Go.RowKit Go.Shelf

set_option maxRecDepth 100000 in
theorem RSigns_any (w : World) :
    Calls Try.prog 66 #[] w fun e w' => e = .returned (.slice (some ⟨w.heap.size, 0, none⟩) 48 48) ∧ w' = w.alloc (.cells signCells 9) := by
  go_enter Try.func66, Try.ntmps66
  go_wp2
  go_ret
  exact ⟨by kernel_rfl, by kernel_rfl⟩
theorem signs_at (w : World) : SAt (w.alloc (.cells signCells 9)) w.heap.size signsL := by
  refine ⟨by simp, fun j x hx => ?_⟩
  have h := heap_alloc_new w (.cells signCells 9)
  rw [Go.Joins.cell_of_block h]
  unfold signCells
  simp [hx]

set_option maxRecDepth 100000 in
set_option maxHeartbeats 2000000 in
theorem RSign_any (s : ByteArray) (w : World) (hs : s.size ≤ maxLen) :
    Calls Try.prog 53 #[.string s] w fun e w' => e = .returned (.string (s.extract 0 (signSz s.data.toList))) ∧ Below w.heap.size w w' := by
  unfold maxLen at hs
  go_enter Try.func53, Try.ntmps53
  go_wp2_with fail
  go_loopw [3, 4] (fun o x wr => ∃ n : Nat, n ≤ 3 ∧ n ≤ s.size ∧ x = .int .i64 ((n : Int) + 1) ∧ o = .string (s.extract 0 (sgnUp s.data.toList n)) ∧ Hid (Below w.heap.size w wr)) (fun _ x _ => 4 - (intOf x).toNat)
  case atStart => exact ⟨0, by omega, by omega, rfl, by rw [sgnUp, extract_zero], Below.refl _ _⟩
  case round =>
    obtain ⟨n, hn3, hns, rfl, rfl, HB⟩ := hrel
    by_cases hlt : n + 1 ≤ 3 ∧ n + 1 ≤ s.size
    · obtain ⟨h3, hsz⟩ := hlt
      have HSg := hid (RSigns_any wr)
      go_wp2_with fail
      refine HSg.out.mono ?_
      rintro e w1 ⟨rfl, hw1⟩
      have HS := hid (signs_at wr)
      have HB1 := hid (HB.out.alloc HB.out.size (.cells signCells 9))
      rw [← hw1] at HS HB1
      clear hw1 HSg HB
      go_wp2_with fail
      go_loop [3, 19] (fun o x => ∃ j : Nat, j ≤ 48 ∧ x = .int .i64 j ∧ o = .string (s.extract 0 (if s.data.toList.take (n + 1) ∈ signsL.take j then n + 1 else sgnUp s.data.toList n))) (fun _ x => 48 - (intOf x).toNat)
      case atStart => exact ⟨0, by omega, rfl, by simp⟩
      case round =>
        obtain ⟨j, hj, rfl, rfl⟩ := hrel
        by_cases hlt : j < 48
        · have hsj : signsL[j]? = some (signsL[j]'hlt) := List.getElem?_eq_getElem hlt
          have hc := HS.out.2 j _ hsj
          have hbw := HS.out.1
          have HM : Hid (s.data.toList.take (n + 1) ∈ signsL.take (j + 1) ↔ (s.data.toList.take (n + 1) ∈ signsL.take j ∨ s.data.toList.take (n + 1) = signsL[j]'hlt)) := by
            show _ ↔ _
            rw [List.take_add_one, hsj]; simp
          generalize signsL[j]'hlt = y at hc HM
          have HX : Hid ((s.extract 0 (n + 1)).toList = s.data.toList.take (n + 1)) := by show _ = _; rw [toList_data, extract_data, List.drop_zero]
          have HX2 : Hid (y = s.data.toList.take (n + 1) → (⟨y.toArray⟩ : ByteArray) = s.extract 0 (n + 1)) := fun e => by
            apply ByteArray.ext; apply Array.ext'; rw [← toList_data (s.extract 0 (n + 1)), HX.out]; simpa using e
          cases hq : (y == (s.extract 0 (n + 1)).toList) with
          | true =>
            have e : y = s.data.toList.take (n + 1) := by rw [← HX.out]; simpa using hq
            have HE := hid (HM.out.2 (.inr e.symm))
            have HV := hid (HX2.out e)
            clear e HM HX HX2
            go_wp2_with fail
            exact ⟨⟨j + 1, by omega, by go_num, by rw [if_pos HE.out, HV.out]⟩, by simp [intOf]; omega⟩
          | false =>
            have e : ¬ s.data.toList.take (n + 1) = y := fun h => by rw [HX.out, h] at hq; simp at hq
            have HE : Hid (s.data.toList.take (n + 1) ∈ signsL.take (j + 1) ↔ s.data.toList.take (n + 1) ∈ signsL.take j) := by show _ ↔ _; rw [HM.out]; simp [e]
            clear e HM HX HX2
            go_wp2_with fail
            exact ⟨⟨j + 1, by omega, by go_num, by simp only [HE.out]⟩, by simp [intOf]; omega⟩
        · obtain rfl : j = 48 := by omega
          have HE : Hid ((if s.data.toList.take (n + 1) ∈ signsL.take 48 then n + 1 else sgnUp s.data.toList n) = sgnUp s.data.toList (n + 1)) := by
            show _ = _
            rw [sgnUp, show signsL.take 48 = signsL from rfl]
            have : n + 1 ≤ s.data.toList.length := by rw [size_data]; exact hsz
            simp only [this, true_and]
          clear hlt
          go_wp2_with fail
          exact ⟨⟨n + 1, by omega, by omega, by go_num, by rw [HE.out], HB1.out⟩, by simp [intOf]; omega⟩
    · have HE : Hid (sgnUp s.data.toList n = signSz s.data.toList) := by
        show _ = _
        rw [sign_up]
        by_cases h : n = 3
        · rw [h]
        · have hss : s.size = n := by omega
          have key : ∀ m, n ≤ m → sgnUp s.data.toList m = sgnUp s.data.toList n := fun m => by
            induction m with
            | zero => intro h; rw [show n = 0 by omega]
            | succ m ih =>
              intro h
              by_cases h2 : n = m + 1
              · rw [h2]
              · rw [sgnUp, if_neg (by rw [size_data]; omega)]; exact ih (by omega)
          rw [key 3 (by omega)]
      by_cases h3 : n + 1 ≤ 3
      · have hsz : ¬ (n + 1 ≤ s.size) := by omega
        go_wp2
        go_ret
        exact ⟨ret_str (by rw [HE.out]), HB.out⟩
      · go_wp2
        go_ret
        exact ⟨ret_str (by rw [HE.out]), HB.out⟩
end
section
open Go.RowKit Go.Shelf

theorem ext_of_take (s : ByteArray) (m n : Nat) (h : s.data.toList.take m = s.data.toList.take n) : s.extract 0 m = s.extract 0 n := by
  apply ByteArray.ext; apply Array.ext'; rw [extract_data, extract_data, List.drop_zero, List.drop_zero, h]
theorem ret_two {k k' : Int} {a b : ByteArray} (hk : k = k') (h : a = b) : Ending.returned (.tuple #[.int .i64 k, .string a]) = .returned (.tuple #[.int .i64 k', .string b]) := by rw [hk, h]

theorem name_end (l : List UInt8) (h0 : letB (byteAt l 0) = true) (k : Nat) (hk : k ≤ l.length) (hl : l ≠ []) (h1 : ∀ i, i < k → wordB (byteAt l i) = true) (h2 : k < l.length → wordB (byteAt l k) = false) : nameSz l = k := by
  have hw : wordB (byteAt l 0) = true := by simp [wordB, h0]
  have hp := List.length_pos_iff.2 hl
  have hk1 : 1 ≤ k := by
    rcases Nat.eq_zero_or_pos k with h | h
    · subst h; have := h2 hp; rw [hw] at this; cases this
    · exact h
  unfold nameSz
  rw [if_neg hl, if_pos h0]
  exact spanN_eq _ _ _ hk1 hk (fun i _ b => h1 i b) h2
theorem starts_at (s : ByteArray) (h1 : 1 ≤ s.size) : startsNum s.data.toList = (digB s[0] || (decide ((s[0].toNat : Int) = 46) && (if h : 1 < s.size then digB s[1] else false))) := by
  have e0 := byte_at s 0 (by omega)
  have hsz := size_data s
  have e1 : ∀ h : 1 < s.size, s[1] = byteAt s.data.toList 1 := fun h => byte_at s 1 h
  have h46 : (s[0] = 46) = ((s[0].toNat : Int) = 46) := u8i s[0] 46
  rw [show decide ((s[0].toNat : Int) = 46) = decide (s[0] = 46) by simp only [h46]]
  rw [e0]
  cases hl : s.data.toList with
  | nil => rw [hl] at hsz; simp at hsz; omega
  | cons c r =>
    have hc : byteAt (c :: r) 0 = c := rfl
    rw [hc]
    cases r with
    | nil =>
      have : ¬ (1 < s.size) := by rw [← hsz, hl]; simp
      rw [dif_neg this]
      by_cases h : c = 46 <;> simp [startsNum, h, digB]
    | cons d r =>
      have h2 : 1 < s.size := by rw [← hsz, hl]; simp
      rw [dif_pos h2, e1 h2, hl]
      have hd : byteAt (c :: d :: r) 1 = d := rfl
      rw [hd]
      by_cases h : c = 46
      · subst h; simp [startsNum, digB]
      · simp [startsNum, h]
theorem path_end (l : List UInt8) (k : Nat) (hk : k < l.length) (h1 : ∀ i, i < k → byteAt l i ≠ 62 ∧ byteAt l i ≠ 10) (h2 : byteAt l k = 62 ∨ byteAt l k = 10) : pathEnd l = k := by
  unfold pathEnd
  have hb : ∀ i (h : i < l.length), l[i] = byteAt l i := fun i h => (byteAt_eq l i _ (List.getElem?_eq_getElem h)).symm
  rw [List.findIdx_eq hk]
  refine ⟨?_, fun j hj => ?_⟩
  · rw [hb k hk]; rcases h2 with h | h <;> simp [h]
  · have := h1 j hj
    rw [hb j (by omega)]; simp [this.1, this.2]
theorem path_yes (l : List UInt8) (k : Nat) (hk : k < l.length) (h0 : byteAt l 0 = 60) (h1 : ∀ i, i < k → byteAt l i ≠ 62 ∧ byteAt l i ≠ 10) (h2 : byteAt l k = 62) : pathSz l = k + 1 := by
  have e := path_end l k hk h1 (.inl h2)
  have g : ∀ i, i < l.length → l[i]? = some (byteAt l i) := fun i h => by rw [List.getElem?_eq_getElem h, byteAt_eq l i _ (List.getElem?_eq_getElem h)]
  unfold pathSz
  rw [e, g 0 (by omega), g k hk, h0, h2, if_pos ⟨rfl, rfl⟩]
theorem path_feed (l : List UInt8) (k : Nat) (hk : k < l.length) (h1 : ∀ i, i < k → byteAt l i ≠ 62 ∧ byteAt l i ≠ 10) (h2 : byteAt l k = 10) : pathSz l = 0 := by
  have e := path_end l k hk h1 (.inr h2)
  have g : l[k]? = some (byteAt l k) := by rw [List.getElem?_eq_getElem hk, byteAt_eq l k _ (List.getElem?_eq_getElem hk)]
  unfold pathSz
  rw [e, g, h2, if_neg (fun h => by cases h.2)]
theorem path_none (l : List UInt8) (h1 : ∀ i, i < l.length → byteAt l i ≠ 62 ∧ byteAt l i ≠ 10) : pathSz l = 0 := by
  have e : pathEnd l = l.length := by
    unfold pathEnd
    rw [List.findIdx_eq_length]
    intro c hc
    obtain ⟨i, hi, rfl⟩ := List.getElem_of_mem hc
    have := h1 i hi
    rw [byteAt_eq l i _ (List.getElem?_eq_getElem hi)] at this
    simp [this.1, this.2]
  unfold pathSz
  rw [e, if_neg (fun h => by rw [List.getElem?_eq_none (Nat.le_refl _)] at h; cases h.2)]
theorem path_other (l : List UInt8) (h : byteAt l 0 ≠ 60) : pathSz l = 0 := by
  unfold pathSz
  rw [if_neg]
  rintro ⟨h0, _⟩
  exact h (byteAt_eq l 0 60 h0)

set_option maxRecDepth 100000 in
set_option maxHeartbeats 2000000 in
theorem RPiece_name (s : ByteArray) (path : Bool) (w : World) (hs : s.size ≤ 1048576) (h1 : 1 ≤ s.size) (hL : letB s[0] = true) :
    Calls Try.prog 29 #[.string s, .bool path] w fun e w' => e = .returned (.tuple #[.int .i64 (rpieceK s.data.toList path), .string (s.extract 0 (pick (sizes s.data.toList path)).2.toNat)]) ∧ Below w.heap.size w w' := by
  have hne : s.data.toList ≠ [] := fun e => by have := size_data s; rw [e] at this; simp at this; omega
  have hmx : s.size ≤ maxLen := by unfold maxLen; omega
  have E0 := hid (byte_at s 0 (by omega))
  have hz : (0 : Int) < (s.size : Int) := by omega
  have hz2 : 0 < s.size := by omega
  have HLc := hid (fun i (h : i < s.size) W => RLetter_any s[i] W)
  have HDc := hid (fun i (h : i < s.size) W => RDigit_any s[i] W)
  obtain ⟨p1, p2⟩ := piece_name s.data.toList path hne (by rw [← E0.out]; exact hL)
  have HK := hid p1
  have HT := hid (ext_of_take s _ _ p2)
  have HN := hid (name_end s.data.toList (by rw [← E0.out]; exact hL))
  rw [size_data] at HN
  have HL0 := hid (RLetter_any s[0] w)
  rw [hL] at HL0
  generalize nameSz s.data.toList = m at HT HN
  generalize pick (sizes s.data.toList path) = pk at HT ⊢
  generalize rpieceK s.data.toList path = kk at HK ⊢
  clear p1 p2 hL
  go_enter Try.func29, Try.ntmps29
  go_wp2_with (go_at_call 49; refine HL0.out.mono ?_; rintro e w' ⟨rfl, hww⟩; subst w')
  clear HL0
  go_loop [7] (fun x => ∃ k : Nat, k ≤ s.size ∧ x = .int .i64 k ∧ Hid (∀ j, j < k → wordB (byteAt s.data.toList j) = true)) (fun x => s.size - (intOf x).toNat)
  case atStart => exact ⟨0, Nat.zero_le _, rfl, fun j hj => by omega⟩
  case round =>
    obtain ⟨k, hk, rfl, HR⟩ := hrel
    by_cases hlt : k < s.size
    · have HL := hid (HLc.out k hlt w)
      have HD := hid (HDc.out k hlt w)
      have HY := hid (fun h : wordB (byteAt s.data.toList k) = true => upto_snoc (q := fun j => wordB (byteAt s.data.toList j) = true) HR.out h)
      have HS := hid (fun h : wordB (byteAt s.data.toList k) = false => HN.out k hk hne HR.out (fun _ => h))
      rw [← byte_at s k hlt, wordB] at HY HS
      generalize letB s[k] = bl at HL HY HS
      generalize digB s[k] = bd at HD HY HS
      clear HR HN HLc HDc
      cases bl with
      | true =>
        have HY2 := hid (HY.out (by simp))
        clear HY HS
        go_wp2_with (first | (go_at_call 49; refine HL.out.mono ?_; rintro e w' ⟨rfl, hww⟩; subst w') | (go_at_call 50; refine HD.out.mono ?_; rintro e w' ⟨rfl, hww⟩; subst w'))
        exact ⟨⟨k + 1, by omega, by go_num, HY2.out⟩, by simp [intOf]; omega⟩
      | false =>
        cases bd with
        | true =>
          have HY2 := hid (HY.out (by simp))
          clear HY HS
          go_wp2_with (first | (go_at_call 49; refine HL.out.mono ?_; rintro e w' ⟨rfl, hww⟩; subst w') | (go_at_call 50; refine HD.out.mono ?_; rintro e w' ⟨rfl, hww⟩; subst w'))
          exact ⟨⟨k + 1, by omega, by go_num, HY2.out⟩, by simp [intOf]; omega⟩
        | false =>
          have HS2 := hid (HS.out (by simp))
          clear HY HS
          go_wp2_with (first | (go_at_call 49; refine HL.out.mono ?_; rintro e w' ⟨rfl, hww⟩; subst w') | (go_at_call 50; refine HD.out.mono ?_; rintro e w' ⟨rfl, hww⟩; subst w'))
          go_quiet (fail)
          go_wp2
          go_ret2
          exact ⟨ret_two HK.out.symm (by rw [HT.out, HS2.out]), below_drewN (Below.refl _ _) _⟩
    · have HS2 := hid (HN.out k hk hne HR.out (fun h => by omega))
      clear HR HN HLc HDc
      go_wp2_with fail
      go_quiet (fail)
      go_wp2
      go_ret2
      exact ⟨ret_two HK.out.symm (by rw [HT.out, HS2.out]), below_drewN (Below.refl _ _) _⟩

set_option maxRecDepth 100000 in
set_option maxHeartbeats 2000000 in
theorem RPiece_num (s : ByteArray) (path : Bool) (w : World) (hs : s.size ≤ 1048576) (h1 : 1 ≤ s.size) (hL : letB s[0] = false) (hsn : startsNum s.data.toList = true) :
    Calls Try.prog 29 #[.string s, .bool path] w fun e w' => e = .returned (.tuple #[.int .i64 (rpieceK s.data.toList path), .string (s.extract 0 (pick (sizes s.data.toList path)).2.toNat)]) ∧ Below w.heap.size w w' := by
  have hne : s.data.toList ≠ [] := fun e => by have := size_data s; rw [e] at this; simp at this; omega
  have hmx : s.size ≤ maxLen := by unfold maxLen; omega
  have E0 := hid (byte_at s 0 (by omega))
  have hz : (0 : Int) < (s.size : Int) := by omega
  have hz2 : 0 < s.size := by omega
  have hL0 : letB (byteAt s.data.toList 0) = false := by rw [← E0.out]; exact hL
  have HL0 := hid (RLetter_any s[0] w)
  rw [hL] at HL0
  have HSt := hid (starts_at s h1)
  obtain ⟨p1, p2⟩ := piece_num s.data.toList path hne hL0 hsn
  have HK := hid p1
  have HT := hid (ext_of_take s _ _ p2)
  have HN := hid (fun W => RNumber_any s W hmx hsn)
  rw [hsn] at HSt
  generalize numSz s.data.toList = m at HT HN
  generalize pick (sizes s.data.toList path) = pk at HT ⊢
  generalize rpieceK s.data.toList path = kk at HK ⊢
  clear p1 p2 hL hsn hL0
  cases hD : digB s[0] with
  | true =>
    have HD0 := hid (RDigit_any s[0] w)
    rw [hD] at HD0
    clear hD HSt
    go_enter Try.func29, Try.ntmps29
    go_wp2_with (first | (go_at_call 49; refine HL0.out.mono ?_; rintro e w' ⟨rfl, hww⟩; subst w') | (go_at_call 50; refine HD0.out.mono ?_; rintro e w' ⟨rfl, hww⟩; subst w'))
    refine (HN.out _).mono ?_
    rintro e wN ⟨rfl, hbN⟩
    have HBN := hid hbN
    clear HN hbN
    go_wp2_with fail
    go_ret2
    exact ⟨ret_two HK.out.symm (by rw [HT.out]), HBN.out⟩
  | false =>
    have HD0 := hid (RDigit_any s[0] w)
    rw [hD] at HD0
    have hq := HSt.out
    rw [hD, Bool.false_or] at hq
    by_cases hs2 : 1 < s.size
    · rw [dif_pos hs2] at hq
      have hq1 : (s[0].toNat : Int) = 46 ∧ digB s[1] = true := by simpa using hq.symm
      have HD1 := hid (RDigit_any s[1] w)
      rw [hq1.2] at HD1
      have n46 : ((s[0].toNat : Int) == 46) = true := by simpa using hq1.1
      have hs3 : (1 : Int) < (s.size : Int) := by omega
      clear hD HSt hq hq1
      go_enter Try.func29, Try.ntmps29
      go_wp2_with fail
      refine HL0.out.mono ?_
      rintro e w' ⟨rfl, hww⟩
      subst w'
      clear HL0
      go_wp2_with fail
      refine HD0.out.mono ?_
      rintro e w' ⟨rfl, hww⟩
      subst w'
      clear HD0
      go_wp2_with fail
      refine HD1.out.mono ?_
      rintro e w' ⟨rfl, hww⟩
      subst w'
      clear HD1
      go_wp2_with fail
      refine (HN.out _).mono ?_
      rintro e wN ⟨rfl, hbN⟩
      have HBN := hid hbN
      clear HN hbN
      go_wp2_with fail
      go_ret2
      exact ⟨ret_two HK.out.symm (by rw [HT.out]), HBN.out⟩
    · rw [dif_neg hs2] at hq; simp at hq
end
section
open Go.RowKit Go.Shelf

theorem starts_no (s : ByteArray) (h1 : 1 ≤ s.size) (h : startsNum s.data.toList = false) : digB s[0] = false ∧ ((s[0].toNat : Int) = 46 → ∀ h : 1 < s.size, digB s[1] = false) := by
  have hq3 := starts_at s h1
  rw [h] at hq3
  have hq3 := hq3.symm
  rw [Bool.or_eq_false_iff] at hq3
  refine ⟨hq3.1, fun h46 h => ?_⟩
  have := hq3.2
  rw [decide_eq_true h46, dif_pos h, Bool.true_and] at this
  exact this

/-- What is said where a sign, or one other byte, stands. -/
def SignPost (s : ByteArray) (path : Bool) : Prop := ∃ (X : ByteArray) (k : Int) (m : Nat), rpieceK s.data.toList path = k ∧ s.extract 0 (pick (sizes s.data.toList path)).2.toNat = s.extract 0 m ∧ s.extract 0 (signSz s.data.toList) = X ∧ ((X = ⟨#[]⟩ ∧ k = 6 ∧ m = 1) ∨ (X.toList.isEmpty = false ∧ k = 5 ∧ X = s.extract 0 m))
theorem sign_post (s : ByteArray) (path : Bool) (h1 : 1 ≤ s.size) (hL : letB s[0] = false) (hsn : startsNum s.data.toList = false) (h34 : ¬ (s[0].toNat : Int) = 34) (h39 : ¬ (s[0].toNat : Int) = 39) (hp : path = true → pathSz s.data.toList = 0) : SignPost s path := by
  have hL0 : letB (byteAt s.data.toList 0) = false := by rw [← byte_at s 0 (by omega)]; exact hL
  obtain ⟨a1, a2⟩ := piece_sign s.data.toList path hL0 hsn (fun e => h34 ((byte_int s 0 (by omega) 34).1 e)) (fun e => h39 ((byte_int s 0 (by omega) 39).1 e)) hp
  by_cases hz : signSz s.data.toList = 0
  · obtain ⟨b1, b2⟩ := a2 hz
    exact ⟨⟨#[]⟩, 6, 1, b1, ext_of_take s _ _ b2, by rw [hz, extract_zero], .inl ⟨rfl, rfl, rfl⟩⟩
  · obtain ⟨b1, b2⟩ := a1 (by omega)
    have hle := signSz_le s.data.toList
    rw [size_data] at hle
    exact ⟨_, 5, _, b1, ext_of_take s _ _ b2, rfl, .inr ⟨isEmpty_false (by rw [ByteArray.size_extract]; omega), rfl, rfl⟩⟩

set_option maxRecDepth 100000 in
set_option maxHeartbeats 2000000 in
theorem RPiece_dot (s : ByteArray) (path : Bool) (w : World) (hs : s.size ≤ 1048576) (h1 : 1 ≤ s.size) (hL : letB s[0] = false) (hsn : startsNum s.data.toList = false) (h46 : (s[0].toNat : Int) = 46) :
    Calls Try.prog 29 #[.string s, .bool path] w fun e w' => e = .returned (.tuple #[.int .i64 (rpieceK s.data.toList path), .string (s.extract 0 (pick (sizes s.data.toList path)).2.toNat)]) ∧ Below w.heap.size w w' := by
  have hne : s.data.toList ≠ [] := fun e => by have := size_data s; rw [e] at this; simp at this; omega
  have hmx : s.size ≤ maxLen := by unfold maxLen; omega
  have E0 := hid (byte_at s 0 (by omega))
  have hz : (0 : Int) < (s.size : Int) := by omega
  have hz2 : 0 < s.size := by omega
  have HL0 := hid (RLetter_any s[0] w)
  rw [hL] at HL0
  have HQ2 := hid (starts_no s h1 hsn)
  have HD0 := hid (RDigit_any s[0] w)
  rw [HQ2.out.1] at HD0
  have hpost := sign_post s path h1 hL hsn (by rw [h46]; decide) (by rw [h46]; decide) (fun _ => path_other _ (fun e => by have := (byte_int s 0 (by omega) 60).1 e; rw [h46] at this; revert this; decide))
  have HSi := hid (fun W => RSign_any s W hmx)
  obtain ⟨X, kk, m, p1, p2, p3, p4⟩ := hpost
  have HK := hid p1
  have HT := hid p2
  rw [p3] at HSi
  generalize pick (sizes s.data.toList path) = pk at HT ⊢
  generalize rpieceK s.data.toList path = kk' at HK ⊢
  clear p1 p2 p3
  have n46 : ((s[0].toNat : Int) == 46) = true := by simpa using h46
  have n34 : ((s[0].toNat : Int) == 34) = false := by rw [h46]; rfl
  have n39 : ((s[0].toNat : Int) == 39) = false := by rw [h46]; rfl
  have n60 : ((s[0].toNat : Int) == 60) = false := by rw [h46]; rfl
  have HQ3 := hid (HQ2.out.2 h46)
  clear HQ2 E0 h46 hsn hL
  by_cases hs2 : 1 < s.size
  · have HD1 := hid (RDigit_any s[1] w)
    rw [HQ3.out hs2] at HD1
    have hs3 : (1 : Int) < (s.size : Int) := by omega
    clear HQ3
    rcases p4 with ⟨rfl, rfl, rfl⟩ | ⟨hX, rfl, hXo⟩
    · go_enter Try.func29, Try.ntmps29
      go_wp2_with fail
      refine HL0.out.mono ?_
      rintro e w' ⟨rfl, hww⟩
      subst w'
      clear HL0
      go_wp2_with fail
      refine HD0.out.mono ?_
      rintro e w' ⟨rfl, hww⟩
      subst w'
      clear HD0
      go_wp2_with fail
      refine HD1.out.mono ?_
      rintro e w' ⟨rfl, hww⟩
      subst w'
      clear HD1
      go_wp2_with fail
      refine (HSi.out _).mono ?_
      rintro e wS ⟨rfl, hbS⟩
      have HBS := hid hbS
      have HBn := hid (fun n => below_drewN HBS.out n)
      clear HSi hbS
      go_wp2_with fail
      first | go_quiet (fail) | skip
      first | go_wp2 | skip
      go_ret2
      exact ⟨ret_two HK.out.symm (by rw [HT.out]), by first | exact HBn.out _ | exact HBS.out⟩
    · have HXe := hid hXo; clear hXo
      go_enter Try.func29, Try.ntmps29
      go_wp2_with fail
      refine HL0.out.mono ?_
      rintro e w' ⟨rfl, hww⟩
      subst w'
      clear HL0
      go_wp2_with fail
      refine HD0.out.mono ?_
      rintro e w' ⟨rfl, hww⟩
      subst w'
      clear HD0
      go_wp2_with fail
      refine HD1.out.mono ?_
      rintro e w' ⟨rfl, hww⟩
      subst w'
      clear HD1
      go_wp2_with fail
      refine (HSi.out _).mono ?_
      rintro e wS ⟨rfl, hbS⟩
      have HBS := hid hbS
      have HBn := hid (fun n => below_drewN HBS.out n)
      clear HSi hbS
      go_wp2_with fail
      first | go_quiet (fail) | skip
      first | go_wp2 | skip
      go_ret2
      exact ⟨ret_two HK.out.symm (by rw [HT.out, ← HXe.out]), by first | exact HBn.out _ | exact HBS.out⟩
  · have hs3 : ¬ ((1 : Int) < (s.size : Int)) := by omega
    clear HQ3
    rcases p4 with ⟨rfl, rfl, rfl⟩ | ⟨hX, rfl, hXo⟩
    · go_enter Try.func29, Try.ntmps29
      go_wp2_with fail
      refine HL0.out.mono ?_
      rintro e w' ⟨rfl, hww⟩
      subst w'
      clear HL0
      go_wp2_with fail
      refine HD0.out.mono ?_
      rintro e w' ⟨rfl, hww⟩
      subst w'
      clear HD0
      go_wp2_with fail
      refine (HSi.out _).mono ?_
      rintro e wS ⟨rfl, hbS⟩
      have HBS := hid hbS
      have HBn := hid (fun n => below_drewN HBS.out n)
      clear HSi hbS
      go_wp2_with fail
      first | go_quiet (fail) | skip
      first | go_wp2 | skip
      go_ret2
      exact ⟨ret_two HK.out.symm (by rw [HT.out]), by first | exact HBn.out _ | exact HBS.out⟩
    · have HXe := hid hXo; clear hXo
      go_enter Try.func29, Try.ntmps29
      go_wp2_with fail
      refine HL0.out.mono ?_
      rintro e w' ⟨rfl, hww⟩
      subst w'
      clear HL0
      go_wp2_with fail
      refine HD0.out.mono ?_
      rintro e w' ⟨rfl, hww⟩
      subst w'
      clear HD0
      go_wp2_with fail
      refine (HSi.out _).mono ?_
      rintro e wS ⟨rfl, hbS⟩
      have HBS := hid hbS
      have HBn := hid (fun n => below_drewN HBS.out n)
      clear HSi hbS
      go_wp2_with fail
      first | go_quiet (fail) | skip
      first | go_wp2 | skip
      go_ret2
      exact ⟨ret_two HK.out.symm (by rw [HT.out, ← HXe.out]), by first | exact HBn.out _ | exact HBS.out⟩

set_option maxRecDepth 100000 in
set_option maxHeartbeats 2000000 in
theorem RPiece_sign (s : ByteArray) (path : Bool) (w : World) (hs : s.size ≤ 1048576) (h1 : 1 ≤ s.size) (hL : letB s[0] = false) (hsn : startsNum s.data.toList = false) (h46 : ¬ (s[0].toNat : Int) = 46) (h34 : ¬ (s[0].toNat : Int) = 34) (h39 : ¬ (s[0].toNat : Int) = 39) (h60 : ¬ ((s[0].toNat : Int) = 60 ∧ path = true)) :
    Calls Try.prog 29 #[.string s, .bool path] w fun e w' => e = .returned (.tuple #[.int .i64 (rpieceK s.data.toList path), .string (s.extract 0 (pick (sizes s.data.toList path)).2.toNat)]) ∧ Below w.heap.size w w' := by
  have hne : s.data.toList ≠ [] := fun e => by have := size_data s; rw [e] at this; simp at this; omega
  have hmx : s.size ≤ maxLen := by unfold maxLen; omega
  have E0 := hid (byte_at s 0 (by omega))
  have hz : (0 : Int) < (s.size : Int) := by omega
  have hz2 : 0 < s.size := by omega
  have HL0 := hid (RLetter_any s[0] w)
  rw [hL] at HL0
  have HQ2 := hid (starts_no s h1 hsn)
  have HD0 := hid (RDigit_any s[0] w)
  rw [HQ2.out.1] at HD0
  have hpost := sign_post s path h1 hL hsn h34 h39 (fun hp => path_other _ (fun e => h60 ⟨(byte_int s 0 (by omega) 60).1 e, hp⟩))
  have HSi := hid (fun W => RSign_any s W hmx)
  obtain ⟨X, kk, m, p1, p2, p3, p4⟩ := hpost
  have HK := hid p1
  have HT := hid p2
  rw [p3] at HSi
  generalize pick (sizes s.data.toList path) = pk at HT ⊢
  generalize rpieceK s.data.toList path = kk' at HK ⊢
  clear p1 p2 p3
  have n46 : ((s[0].toNat : Int) == 46) = false := by simpa using h46
  have n34 : ((s[0].toNat : Int) == 34) = false := by simpa using h34
  have n39 : ((s[0].toNat : Int) == 39) = false := by simpa using h39
  clear HQ2 E0 h46 hsn hL h34 h39
  by_cases h6 : (s[0].toNat : Int) = 60
  · have n60 : ((s[0].toNat : Int) == 60) = true := by simpa using h6
    have hpf : path = false := by cases path; rfl; exact absurd ⟨h6, rfl⟩ h60
    subst hpf
    clear h6 h60
    rcases p4 with ⟨rfl, rfl, rfl⟩ | ⟨hX, rfl, hXo⟩
    · go_enter Try.func29, Try.ntmps29
      go_wp2_with fail
      refine HL0.out.mono ?_
      rintro e w' ⟨rfl, hww⟩
      subst w'
      clear HL0
      go_wp2_with fail
      refine HD0.out.mono ?_
      rintro e w' ⟨rfl, hww⟩
      subst w'
      clear HD0
      go_wp2_with fail
      refine (HSi.out _).mono ?_
      rintro e wS ⟨rfl, hbS⟩
      have HBS := hid hbS
      have HBn := hid (fun n => below_drewN HBS.out n)
      clear HSi hbS
      go_wp2_with fail
      first | go_quiet (fail) | skip
      first | go_wp2 | skip
      go_ret2
      exact ⟨ret_two HK.out.symm (by rw [HT.out]), by first | exact HBn.out _ | exact HBS.out⟩
    · have HXe := hid hXo; clear hXo
      go_enter Try.func29, Try.ntmps29
      go_wp2_with fail
      refine HL0.out.mono ?_
      rintro e w' ⟨rfl, hww⟩
      subst w'
      clear HL0
      go_wp2_with fail
      refine HD0.out.mono ?_
      rintro e w' ⟨rfl, hww⟩
      subst w'
      clear HD0
      go_wp2_with fail
      refine (HSi.out _).mono ?_
      rintro e wS ⟨rfl, hbS⟩
      have HBS := hid hbS
      have HBn := hid (fun n => below_drewN HBS.out n)
      clear HSi hbS
      go_wp2_with fail
      first | go_quiet (fail) | skip
      first | go_wp2 | skip
      go_ret2
      exact ⟨ret_two HK.out.symm (by rw [HT.out, ← HXe.out]), by first | exact HBn.out _ | exact HBS.out⟩
  · have n60 : ((s[0].toNat : Int) == 60) = false := by simpa using h6
    clear h6 h60
    rcases p4 with ⟨rfl, rfl, rfl⟩ | ⟨hX, rfl, hXo⟩
    · go_enter Try.func29, Try.ntmps29
      go_wp2_with fail
      refine HL0.out.mono ?_
      rintro e w' ⟨rfl, hww⟩
      subst w'
      clear HL0
      go_wp2_with fail
      refine HD0.out.mono ?_
      rintro e w' ⟨rfl, hww⟩
      subst w'
      clear HD0
      go_wp2_with fail
      refine (HSi.out _).mono ?_
      rintro e wS ⟨rfl, hbS⟩
      have HBS := hid hbS
      have HBn := hid (fun n => below_drewN HBS.out n)
      clear HSi hbS
      go_wp2_with fail
      first | go_quiet (fail) | skip
      first | go_wp2 | skip
      go_ret2
      exact ⟨ret_two HK.out.symm (by rw [HT.out]), by first | exact HBn.out _ | exact HBS.out⟩
    · have HXe := hid hXo; clear hXo
      go_enter Try.func29, Try.ntmps29
      go_wp2_with fail
      refine HL0.out.mono ?_
      rintro e w' ⟨rfl, hww⟩
      subst w'
      clear HL0
      go_wp2_with fail
      refine HD0.out.mono ?_
      rintro e w' ⟨rfl, hww⟩
      subst w'
      clear HD0
      go_wp2_with fail
      refine (HSi.out _).mono ?_
      rintro e wS ⟨rfl, hbS⟩
      have HBS := hid hbS
      have HBn := hid (fun n => below_drewN HBS.out n)
      clear HSi hbS
      go_wp2_with fail
      first | go_quiet (fail) | skip
      first | go_wp2 | skip
      go_ret2
      exact ⟨ret_two HK.out.symm (by rw [HT.out, ← HXe.out]), by first | exact HBn.out _ | exact HBS.out⟩

set_option maxRecDepth 100000 in
set_option maxHeartbeats 2000000 in
theorem RPiece_quot (s : ByteArray) (path : Bool) (w : World) (hs : s.size ≤ 1048576) (h1 : 1 ≤ s.size) (hL : letB s[0] = false) (hsn : startsNum s.data.toList = false) (hq : (s[0].toNat : Int) = 34 ∨ (s[0].toNat : Int) = 39) :
    Calls Try.prog 29 #[.string s, .bool path] w fun e w' => e = .returned (.tuple #[.int .i64 (rpieceK s.data.toList path), .string (s.extract 0 (pick (sizes s.data.toList path)).2.toNat)]) ∧ Below w.heap.size w w' := by
  have hne : s.data.toList ≠ [] := fun e => by have := size_data s; rw [e] at this; simp at this; omega
  have hmx : s.size ≤ maxLen := by unfold maxLen; omega
  have E0 := hid (byte_at s 0 (by omega))
  have hz : (0 : Int) < (s.size : Int) := by omega
  have hz2 : 0 < s.size := by omega
  have HL0 := hid (RLetter_any s[0] w)
  rw [hL] at HL0
  have HQ2 := hid (starts_no s h1 hsn)
  have HD0 := hid (RDigit_any s[0] w)
  rw [HQ2.out.1] at HD0
  clear HQ2
  rcases hq with h | h
  · obtain ⟨p1, p2⟩ := piece_text s.data.toList path hne ((byte_int s 0 (by omega) 34).2 h)
    have HK := hid p1
    have HT := hid (ext_of_take s _ _ p2)
    have HN := hid (fun W => RQuoted_any s 34 W hmx h1 h)
    generalize (quotSz 34 s.data.toList).toNat = m at HT HN
    generalize pick (sizes s.data.toList path) = pk at HT ⊢
    generalize rpieceK s.data.toList path = kk at HK ⊢
    have n46 : ((s[0].toNat : Int) == 46) = false := by rw [h]; rfl
    have n34 : ((s[0].toNat : Int) == 34) = true := by rw [h]; rfl
    clear p1 p2 hsn hL h E0
    go_enter Try.func29, Try.ntmps29
    go_wp2_with fail
    refine HL0.out.mono ?_
    rintro e w' ⟨rfl, hww⟩
    subst w'
    clear HL0
    go_wp2_with fail
    refine HD0.out.mono ?_
    rintro e w' ⟨rfl, hww⟩
    subst w'
    clear HD0
    go_wp2_with fail
    refine (HN.out _).mono ?_
    rintro e wN ⟨rfl, hbN⟩
    have HBN := hid hbN
    clear HN hbN
    go_wp2_with fail
    go_ret2
    exact ⟨ret_two HK.out.symm (by rw [HT.out]), HBN.out⟩
  · obtain ⟨p1, p2⟩ := piece_char s.data.toList path hne ((byte_int s 0 (by omega) 39).2 h)
    have HK := hid p1
    have HT := hid (ext_of_take s _ _ p2)
    have HN := hid (fun W => RQuoted_any s 39 W hmx h1 h)
    generalize (quotSz 39 s.data.toList).toNat = m at HT HN
    generalize pick (sizes s.data.toList path) = pk at HT ⊢
    generalize rpieceK s.data.toList path = kk at HK ⊢
    have n46 : ((s[0].toNat : Int) == 46) = false := by rw [h]; rfl
    have n34 : ((s[0].toNat : Int) == 34) = false := by rw [h]; rfl
    have n39 : ((s[0].toNat : Int) == 39) = true := by rw [h]; rfl
    clear p1 p2 hsn hL h E0
    go_enter Try.func29, Try.ntmps29
    go_wp2_with fail
    refine HL0.out.mono ?_
    rintro e w' ⟨rfl, hww⟩
    subst w'
    clear HL0
    go_wp2_with fail
    refine HD0.out.mono ?_
    rintro e w' ⟨rfl, hww⟩
    subst w'
    clear HD0
    go_wp2_with fail
    refine (HN.out _).mono ?_
    rintro e wN ⟨rfl, hbN⟩
    have HBN := hid hbN
    clear HN hbN
    go_wp2_with fail
    go_ret2
    exact ⟨ret_two HK.out.symm (by rw [HT.out]), HBN.out⟩
end
section
open Go.RowKit Go.Shelf

set_option maxRecDepth 100000 in
set_option maxHeartbeats 2000000 in
theorem RPiece_path (s : ByteArray) (w : World) (hs : s.size ≤ 1048576) (h1 : 1 ≤ s.size) (hL : letB s[0] = false) (hsn : startsNum s.data.toList = false) (h60 : (s[0].toNat : Int) = 60) :
    Calls Try.prog 29 #[.string s, .bool true] w fun e w' => e = .returned (.tuple #[.int .i64 (rpieceK s.data.toList true), .string (s.extract 0 (pick (sizes s.data.toList true)).2.toNat)]) ∧ Below w.heap.size w w' := by
  have hmx : s.size ≤ maxLen := by unfold maxLen; omega
  have hz : (0 : Int) < (s.size : Int) := by omega
  have hz2 : 0 < s.size := by omega
  have HL0 := hid (RLetter_any s[0] w)
  rw [hL] at HL0
  have HQ2 := hid (starts_no s h1 hsn)
  have HD0 := hid (RDigit_any s[0] w)
  rw [HQ2.out.1] at HD0
  have hb0 : byteAt s.data.toList 0 = 60 := (byte_int s 0 (by omega) 60).2 h60
  have HPost := hid (fun hp => sign_post s true h1 hL hsn (by rw [h60]; decide) (by rw [h60]; decide) hp)
  have HPath := hid (piece_path s.data.toList (by rw [← byte_at s 0 (by omega)]; exact hL) hsn (by rw [hb0]; decide) (by rw [hb0]; decide))
  have HB0 := hid hb0
  have HSi := hid (fun W => RSign_any s W hmx)
  have n46 : ((s[0].toNat : Int) == 46) = false := by rw [h60]; rfl
  have n34 : ((s[0].toNat : Int) == 34) = false := by rw [h60]; rfl
  have n39 : ((s[0].toNat : Int) == 39) = false := by rw [h60]; rfl
  have n60 : ((s[0].toNat : Int) == 60) = true := by rw [h60]; rfl
  clear hb0 h60 HQ2 hL hsn
  go_enter Try.func29, Try.ntmps29
  go_wp2_with fail
  refine HL0.out.mono ?_
  rintro e w' ⟨rfl, hww⟩
  subst w'
  clear HL0
  go_wp2_with fail
  refine HD0.out.mono ?_
  rintro e w' ⟨rfl, hww⟩
  subst w'
  clear HD0
  go_wp2_with fail
  go_loop [8] (fun x => ∃ k : Nat, 1 ≤ k ∧ k ≤ s.size ∧ x = .int .i64 k ∧ Hid (∀ j, j < k → byteAt s.data.toList j ≠ 62 ∧ byteAt s.data.toList j ≠ 10)) (fun x => s.size - (intOf x).toNat)
  case atStart => exact ⟨1, by omega, h1, rfl, fun j hj => by rw [show j = 0 by omega, HB0.out]; decide⟩
  case round =>
    obtain ⟨k, hk1, hk, rfl, HR⟩ := hrel
    by_cases hlt : k < s.size
    · by_cases h10 : (s[k].toNat : Int) = 10
      · obtain ⟨X, kk, m, p1, p2, p3, p4⟩ := HPost.out (fun _ => path_feed _ k (by rw [size_data]; exact hlt) HR.out ((byte_int s k hlt 10).2 h10))
        have HK := hid p1
        have HT := hid p2
        rw [p3] at HSi
        have m10 : ((s[k].toNat : Int) != 10) = false := by simp [h10]
        clear p1 p2 p3 HPost HPath HB0 HR n46 n34 n39 n60 h10
        rcases p4 with ⟨rfl, rfl, rfl⟩ | ⟨hX, rfl, hXo⟩
        · go_wp2_with fail
          refine (HSi.out _).mono ?_
          rintro e wS ⟨rfl, hbS⟩
          have HBn := hid (fun n => below_drewN hbS n)
          clear HSi hbS
          go_wp2_with fail
          go_quiet (fail)
          go_wp2
          go_ret2
          exact ⟨ret_two HK.out.symm (by rw [HT.out]), HBn.out _⟩
        · have HXe := hid hXo; clear hXo
          go_wp2_with fail
          refine (HSi.out _).mono ?_
          rintro e wS ⟨rfl, hbS⟩
          have HBS := hid hbS
          clear HSi hbS
          go_wp2_with fail
          go_ret2
          exact ⟨ret_two HK.out.symm (by rw [HT.out, ← HXe.out]), HBS.out⟩
      · have m10 : ((s[k].toNat : Int) != 10) = true := by simpa using h10
        by_cases h62 : (s[k].toNat : Int) = 62
        · have hy := path_yes _ k (by rw [size_data]; exact hlt) HB0.out HR.out ((byte_int s k hlt 62).2 h62)
          obtain ⟨p1, p2⟩ := HPath.out (by omega)
          rw [hy] at p2
          have HK := hid p1
          have HT := hid (ext_of_take s _ _ p2)
          have m62 : ((s[k].toNat : Int) == 62) = true := by simpa using h62
          clear p1 p2 HPost HPath HB0 HR n46 n34 n39 n60 h10 hy HSi h62
          go_wp2_with fail
          go_quiet (fail)
          go_wp2
          go_ret2
          exact ⟨ret_two HK.out.symm (by rw [HT.out]), below_drewN (Below.refl _ _) _⟩
        · have HR2 : Hid (∀ j, j < k + 1 → byteAt s.data.toList j ≠ 62 ∧ byteAt s.data.toList j ≠ 10) :=
            upto_snoc (q := fun j => byteAt s.data.toList j ≠ 62 ∧ byteAt s.data.toList j ≠ 10) HR.out ⟨fun e => h62 ((byte_int s k hlt 62).1 e), fun e => h10 ((byte_int s k hlt 10).1 e)⟩
          have m62 : ((s[k].toNat : Int) == 62) = false := by simpa using h62
          clear HPost HPath HB0 HR n46 n34 n39 n60 h10 HSi h62
          go_wp2_with fail
          exact ⟨⟨k + 1, by omega, by omega, by go_num, HR2.out⟩, by simp [intOf]; omega⟩
    · obtain ⟨X, kk, m, p1, p2, p3, p4⟩ := HPost.out (fun _ => path_none _ (fun i hi => HR.out i (by rw [size_data] at hi; omega)))
      have HK := hid p1
      have HT := hid p2
      rw [p3] at HSi
      clear p1 p2 p3 HPost HPath HB0 HR n46 n34 n39 n60
      rcases p4 with ⟨rfl, rfl, rfl⟩ | ⟨hX, rfl, hXo⟩
      · go_wp2_with fail
        refine (HSi.out _).mono ?_
        rintro e wS ⟨rfl, hbS⟩
        have HBn := hid (fun n => below_drewN hbS n)
        clear HSi hbS
        go_wp2_with fail
        go_quiet (fail)
        go_wp2
        go_ret2
        exact ⟨ret_two HK.out.symm (by rw [HT.out]), HBn.out _⟩
      · have HXe := hid hXo; clear hXo
        go_wp2_with fail
        refine (HSi.out _).mono ?_
        rintro e wS ⟨rfl, hbS⟩
        have HBS := hid hbS
        clear HSi hbS
        go_wp2_with fail
        go_ret2
        exact ⟨ret_two HK.out.symm (by rw [HT.out, ← HXe.out]), HBS.out⟩

theorem RPiece_any (s : ByteArray) (path : Bool) (w : World) (hs : s.size ≤ 1048576) (h1 : 1 ≤ s.size) :
    Calls Try.prog 29 #[.string s, .bool path] w fun e w' => e = .returned (.tuple #[.int .i64 (rpieceK s.data.toList path), .string (s.extract 0 (pick (sizes s.data.toList path)).2.toNat)]) ∧ Below w.heap.size w w' := by
  cases hL : letB s[0] with
  | true => exact RPiece_name s path w hs h1 hL
  | false =>
    cases hsn : startsNum s.data.toList with
    | true => exact RPiece_num s path w hs h1 hL hsn
    | false =>
      by_cases h46 : (s[0].toNat : Int) = 46
      · exact RPiece_dot s path w hs h1 hL hsn h46
      by_cases h34 : (s[0].toNat : Int) = 34
      · exact RPiece_quot s path w hs h1 hL hsn (.inl h34)
      by_cases h39 : (s[0].toNat : Int) = 39
      · exact RPiece_quot s path w hs h1 hL hsn (.inr h39)
      by_cases h60 : (s[0].toNat : Int) = 60 ∧ path = true
      · obtain ⟨h60, rfl⟩ := h60
        exact RPiece_path s w hs h1 hL hsn h60
      · exact RPiece_sign s path w hs h1 hL hsn h46 h34 h39 h60
end
section
open Go.RowKit Go.Shelf

theorem ret_skip {k k' : Int} {a b : Bool} (hk : k' = k) (h : b = a) : Ending.returned (.tuple #[.int .i64 k, .bool a]) = .returned (.tuple #[.int .i64 k', .bool b]) := by rw [hk, h]
theorem two_bytes (s : ByteArray) (k : Nat) (h : k + 1 < s.size) : (s.extract k (k + 2)).toList = [s[k], s[k + 1]] := by
  rw [toList_data, extract_data, List.drop_take, show k + 2 - k = 2 by omega]
  rw [List.drop_eq_getElem_cons (by rw [size_data]; omega), List.drop_eq_getElem_cons (by rw [size_data]; omega)]
  rfl

set_option maxRecDepth 100000 in
set_option maxHeartbeats 400000 in
theorem RSkip_any (s : ByteArray) (w : World) (hs : s.size ≤ 1048576) :
    Calls Try.prog 28 #[.string s] w fun e w' => e = .returned (.tuple #[.int .i64 (rskipN s.data.toList), .bool (rskipB s.data.toList)]) ∧ w' = w := by
  go_enter Try.func28, Try.ntmps28
  go_wp2_with fail
  go_loop [4, 5] (fun x f => ∃ (k : Nat) (b : Bool), x = .int .i64 k ∧ f = .bool b ∧ Hid (SkAt s.data.toList k b)) (fun x _ => s.size - (intOf x).toNat)
  case atStart => exact ⟨0, false, rfl, rfl, SkAt.start _⟩
  case round =>
    obtain ⟨k, b, rfl, rfl, HS⟩ := hrel
    have hle : k ≤ s.size := by have := HS.out.1; rw [size_data] at this; exact this
    by_cases hlt : k < s.size
    · have HBl := hid (blank_at s.data.toList k (by rw [size_data]; exact hlt))
      rw [← byte_at s k hlt, size_data] at HBl
      simp only [u8i] at HBl
      have HF := hid (fun c => (byte_int s k hlt c))
      by_cases hbl : (s[k].toNat : Int) = 32 ∨ (s[k].toNat : Int) = 9 ∨ (s[k].toNat : Int) = 13
      · have HG := hid (HS.out.go 1 (by rw [HBl.out, if_pos (by rcases hbl with h | h | h; exact .inl h; exact .inr (.inl h); exact .inr (.inr (.inr h)))]; rfl) (by omega))
        have HFe : Hid ((b || byteAt s.data.toList k == 10) = b) := by
          show _ = _
          have : (byteAt s.data.toList k == 10) = false := by rw [beq_eq_false_iff_ne, Ne, byte_int s k hlt 10]; intro h; rw [h] at hbl; revert hbl; decide
          rw [this, Bool.or_false]
        rw [HFe.out] at HG
        clear HFe HF HBl HS
        rcases hbl with h | h | h
        · go_wp2_with fail
          all_goals exact ⟨⟨k + 1, b, by go_num, rfl, HG.out⟩, by simp [intOf]; omega⟩
        · go_wp2_with fail
          all_goals exact ⟨⟨k + 1, b, by go_num, rfl, HG.out⟩, by simp [intOf]; omega⟩
        · go_wp2_with fail
          all_goals exact ⟨⟨k + 1, b, by go_num, rfl, HG.out⟩, by simp [intOf]; omega⟩
      · by_cases h10 : (s[k].toNat : Int) = 10
        · have HG := hid (HS.out.go 1 (by rw [HBl.out, if_pos (.inr (.inr (.inl h10)))]; rfl) (by omega))
          have HFe : Hid ((b || byteAt s.data.toList k == 10) = true) := by
            show _ = _
            rw [(byte_int s k hlt 10).2 h10]; simp
          rw [HFe.out] at HG
          clear HFe HF HBl HS hbl
          go_wp2_with fail
          all_goals exact ⟨⟨k + 1, true, by go_num, rfl, HG.out⟩, by simp [intOf]; omega⟩
        · have n1 : ((s[k].toNat : Int) == 32) = false := by simp; omega
          have n2 : ((s[k].toNat : Int) == 9) = false := by simp; omega
          have n3 : ((s[k].toNat : Int) == 13) = false := by simp; omega
          have n4 : ((s[k].toNat : Int) == 10) = false := by simp; omega
          have HB2 := hid (HBl.out.trans (if_neg (by intro h; rcases h with h | h | h | h; exact hbl (.inl h); exact hbl (.inr (.inl h)); exact h10 h; exact hbl (.inr (.inr h)))))
          have HFe : Hid ((b || byteAt s.data.toList k == 10) = b) := by
            show _ = _
            have : (byteAt s.data.toList k == 10) = false := by rw [beq_eq_false_iff_ne, Ne, byte_int s k hlt 10]; exact h10
            rw [this, Bool.or_false]
          clear HBl HF hbl h10
          by_cases hk1 : k + 1 < s.size
          · have ht := two_bytes s k hk1
            rw [← byte_at s (k + 1) hk1] at HB2
            by_cases h47 : (s[k].toNat : Int) = 47
            · by_cases hss : (s[k + 1].toNat : Int) = 47
              · have hT : ((s.extract k (k + 2)).toList == [47, 47]) = true := by
                  rw [ht]; simp only [beq_iff_eq, List.cons.injEq, and_true, u8i]; exact ⟨h47, hss⟩
                have HB3 := hid (HB2.out.trans (if_pos ⟨h47, hk1, hss⟩))
                have HS10 : Hid ((s[k].toNat : Int) ≠ 10) := by show _ ≠ _; rw [h47]; decide
                clear HB2 ht hss h47
                go_wp2_with fail
                go_loop [4] (fun x => ∃ j : Nat, k ≤ j ∧ j ≤ s.size ∧ x = .int .i64 j ∧ Hid (∀ i, k ≤ i → i < j → byteAt s.data.toList i ≠ 10)) (fun x => s.size - (intOf x).toNat)
                case atStart => exact ⟨k, Nat.le_refl _, hle, rfl, fun i h1 h2 => by omega⟩
                case round =>
                  obtain ⟨j, hkj, hj, rfl, HR⟩ := hrel
                  by_cases hjl : j < s.size ∧ ¬ (s[j]!.toNat : Int) = 10
                  · obtain ⟨hjl, hj10⟩ := hjl
                    have hj10 : ¬ (s[j].toNat : Int) = 10 := by rw [getElem!_pos s j hjl] at hj10; exact hj10
                    have HR2 : Hid (∀ i, k ≤ i → i < j + 1 → byteAt s.data.toList i ≠ 10) := fun i h1 h2 => by
                      by_cases e : i = j
                      · subst e; intro h; exact hj10 ((byte_int s i hjl 10).1 h)
                      · exact HR.out i h1 (by omega)
                    have m1 : ((s[j].toNat : Int) != 10) = true := by simpa using hj10
                    clear HR hj10 hT n1 n2 n3 n4 hk1
                    go_wp2_with fail
                    exact ⟨⟨j + 1, by omega, by omega, by go_num, HR2.out⟩, by simp [intOf]; omega⟩
                  · have hend : ∀ h : j < s.size, (s[j].toNat : Int) = 10 := fun h => by
                      rcases Classical.em ((s[j].toNat : Int) = 10) with e | e
                      · exact e
                      · exact absurd ⟨h, by rw [getElem!_pos s j h]; exact e⟩ hjl
                    have hkj1 : k + 1 ≤ j := by
                      rcases Nat.eq_or_lt_of_le hkj with e | e
                      · subst e; exact absurd (hend hlt) HS10.out
                      · exact e
                    have hsp : spanN (fun i => byteAt s.data.toList (k + i) != 10) (s.size - k) = j - k := by
                      refine spanN_eq _ _ _ (by omega) (by omega) (fun i h1 h2 => ?_) (fun h => ?_)
                      · have := HR.out (k + i) (by omega) (by omega); simpa using this
                      · have := (byte_int s j (by omega) 10).2 (hend (by omega))
                        rw [show k + (j - k) = j by omega, this]; rfl
                    have HG := hid (HS.out.go (j - k) (HB3.out.trans (by rw [hsp])) (by omega))
                    rw [HFe.out, show k + (j - k) = j by omega] at HG
                    clear HR hsp HFe HB3 HS hT n1 n2 n3 n4 hk1 HS10 hjl
                    by_cases hjs : j < s.size
                    · have m1 : ((s[j].toNat : Int) != 10) = false := by have := hend hjs; simp [this]
                      clear hend
                      go_wp2_with fail
                      exact ⟨⟨j, b, rfl, rfl, HG.out⟩, by simp [intOf]; omega⟩
                    · clear hend
                      go_wp2_with fail
                      exact ⟨⟨j, b, rfl, rfl, HG.out⟩, by simp [intOf]; omega⟩
              · by_cases hst : (s[k + 1].toNat : Int) = 42
                · have hT : ((s.extract k (k + 2)).toList == [47, 47]) = false := by
                    rw [ht, beq_eq_false_iff_ne]; simp only [Ne, List.cons.injEq, and_true, u8i]; exact fun h => hss h.2
                  have hT2 : ((s.extract k (k + 2)).toList == [47, 42]) = true := by
                    rw [ht]; simp only [beq_iff_eq, List.cons.injEq, and_true, u8i]; exact ⟨h47, hst⟩
                  have HB3 := hid (HB2.out.trans ((if_neg (fun h => hss h.2.2)).trans (if_pos ⟨h47, hk1, hst⟩)))
                  clear HB2 ht hss h47 hst
                  go_wp2_with fail
                  go_loop [8] (fun x => ∃ j : Nat, k + 2 ≤ j ∧ j ≤ s.size ∧ x = .int .i64 j ∧ Hid (∀ i, k + 2 ≤ i → i < j → ¬(byteAt s.data.toList i = 42 ∧ byteAt s.data.toList (i + 1) = 47))) (fun x => s.size - (intOf x).toNat)
                  case atStart => exact ⟨k + 2, Nat.le_refl _, by omega, by go_num, fun i h1 h2 => by omega⟩
                  case round =>
                    obtain ⟨j, hkj, hj, rfl, HR⟩ := hrel
                    by_cases hj1 : j + 1 < s.size
                    · have ht := two_bytes s j hj1
                      have hb : ((s.extract j (j + 2)).toList == [42, 47]) = decide (byteAt s.data.toList j = 42 ∧ byteAt s.data.toList (j + 1) = 47) := by
                        rw [ht, ← byte_at s j (by omega), ← byte_at s (j + 1) hj1]
                        apply bool_ext
                        simp
                      by_cases hx : byteAt s.data.toList j = 42 ∧ byteAt s.data.toList (j + 1) = 47
                      · have hb2 : ((s.extract j (j + 2)).toList == [42, 47]) = true := by rw [hb, decide_eq_true hx]
                        have hnote : noteEnd (s.data.toList.drop (k + 2)) 0 = some (j - (k + 2)) := by
                          have q1 : ∀ i, i < j - (k + 2) → ¬(byteAt (s.data.toList.drop (k + 2)) i = 42 ∧ byteAt (s.data.toList.drop (k + 2)) (i + 1) = 47) := fun i hi => by
                            rw [byteAt_drop, byteAt_drop]
                            have := HR.out (k + 2 + i) (by omega) (by omega)
                            rw [show k + 2 + (i + 1) = k + 2 + i + 1 by omega]; exact this
                          have q2 : byteAt (s.data.toList.drop (k + 2)) (j - (k + 2)) = 42 := by rw [byteAt_drop, show k + 2 + (j - (k + 2)) = j by omega]; exact hx.1
                          have q3 : byteAt (s.data.toList.drop (k + 2)) (j - (k + 2) + 1) = 47 := by rw [byteAt_drop, show k + 2 + (j - (k + 2) + 1) = j + 1 by omega]; exact hx.2
                          have q4 : j - (k + 2) + 1 < (s.data.toList.drop (k + 2)).length := by rw [List.length_drop, size_data]; omega
                          rw [noteEnd_some (j - (k + 2)) (s.data.toList.drop (k + 2)) 0 q1 q2 q3 q4]
                          simp
                        have HG := hid (HS.out.go (j + 2 - k) (HB3.out.trans (by rw [hnote]; show ((j - (k + 2) : Nat) : Int) + 4 = _; omega)) (by omega))
                        rw [HFe.out, show k + (j + 2 - k) = j + 2 by omega] at HG
                        clear HR hnote HFe HB3 HS hT hT2 n1 n2 n3 n4 hk1 ht hb hx
                        go_wp2_with fail
                        exact ⟨⟨j + 2, b, by go_num, rfl, HG.out⟩, by simp [intOf]; omega⟩
                      · have hb2 : ((s.extract j (j + 2)).toList == [42, 47]) = false := by rw [hb, decide_eq_false hx]
                        have HR2 : Hid (∀ i, k + 2 ≤ i → i < j + 1 → ¬(byteAt s.data.toList i = 42 ∧ byteAt s.data.toList (i + 1) = 47)) := fun i h1 h2 => by
                          by_cases e : i = j
                          · subst e; exact hx
                          · exact HR.out i h1 (by omega)
                        clear HR hT hT2 n1 n2 n3 n4 hk1 ht hb hx
                        go_wp2_with fail
                        exact ⟨⟨j + 1, by omega, by omega, by go_num, HR2.out⟩, by simp [intOf]; omega⟩
                    · have hnote : noteEnd (s.data.toList.drop (k + 2)) 0 = none := noteEnd_none _ 0 (fun i hi => by
                        rw [List.length_drop, size_data] at hi
                        rw [byteAt_drop, byteAt_drop]
                        have := HR.out (k + 2 + i) (by omega) (by omega)
                        rw [show k + 2 + (i + 1) = k + 2 + i + 1 by omega]; exact this)
                      have HE := hid (HS.out.lacks (by rw [HB3.out, hnote]; show (-1 : Int) < 0; decide))
                      clear HR hnote HFe HB3 HS hT hT2 n1 n2 n3 n4 hk1
                      go_wp2_with fail
                      go_ret2
                      exact ⟨ret_skip HE.out.1 HE.out.2, rfl⟩
                · have hT : ((s.extract k (k + 2)).toList == [47, 47]) = false := by
                    rw [ht, beq_eq_false_iff_ne]; simp only [Ne, List.cons.injEq, and_true, u8i]; exact fun h => hss h.2
                  have hT2 : ((s.extract k (k + 2)).toList == [47, 42]) = false := by
                    rw [ht, beq_eq_false_iff_ne]; simp only [Ne, List.cons.injEq, and_true, u8i]; exact fun h => hst h.2
                  have HE := hid (HS.out.stop (HB2.out.trans (by rw [if_neg (fun h => hss h.2.2), if_neg (fun h => hst h.2.2)])))
                  clear HB2 HFe HS ht
                  go_wp2_with fail
                  go_ret2
                  exact ⟨ret_skip HE.out.1 HE.out.2, rfl⟩
            · have hT : ((s.extract k (k + 2)).toList == [47, 47]) = false := by
                rw [ht, beq_eq_false_iff_ne]; simp only [Ne, List.cons.injEq, and_true, u8i]; exact fun h => h47 h.1
              have hT2 : ((s.extract k (k + 2)).toList == [47, 42]) = false := by
                rw [ht, beq_eq_false_iff_ne]; simp only [Ne, List.cons.injEq, and_true, u8i]; exact fun h => h47 h.1
              have HE := hid (HS.out.stop (HB2.out.trans (by rw [if_neg (fun h => h47 h.1), if_neg (fun h => h47 h.1)])))
              clear HB2 HFe HS ht
              go_wp2_with fail
              go_ret2
              exact ⟨ret_skip HE.out.1 HE.out.2, rfl⟩
          · have HE := hid (HS.out.stop (HB2.out.trans (by rw [if_neg (fun h => hk1 h.2.1), if_neg (fun h => hk1 h.2.1)])))
            clear HB2 HFe HS
            go_wp2_with fail
            go_ret2
            exact ⟨ret_skip HE.out.1 HE.out.2, rfl⟩
    · have HE := hid (HS.out.stop (by rw [List.drop_of_length_le (by rw [size_data]; omega)]; rfl))
      clear HS
      go_wp2_with fail
      go_ret2
      exact ⟨ret_skip HE.out.1 HE.out.2, rfl⟩
end
end Go.Proofs.Ytkfbhknhjpmomaa
