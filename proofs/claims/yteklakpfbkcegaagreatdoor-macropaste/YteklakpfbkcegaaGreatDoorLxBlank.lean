/- Walks of pathSize, signSize and blankSize. -/
import Derived.Test.YteklakpfbkcegaaGreatDoorLxRune
namespace Go.Proofs.YteklakpfbkcegaaGreatDoor
open Go.RowKit Go.Shelf

theorem indexAny_end : ∀ (l : List UInt8), Lib.indexAny l [62, 10] = if pathEnd l < l.length then (pathEnd l : Int) else -1
  | [] => rfl
  | c :: r => by
    have ih := indexAny_end r
    unfold Lib.indexAny
    by_cases h : c = 62 ∨ c = 10
    · have hc : [62, 10].contains c = true := by rcases h with rfl | rfl <;> rfl
      have hp : pathEnd (c :: r) = 0 := by
        unfold pathEnd; rw [List.findIdx_cons]
        rcases h with rfl | rfl <;> rfl
      rw [if_pos hc, hp]; simp
    · have h1 : ¬ c = 62 := fun e => h (.inl e)
      have h2 : ¬ c = 10 := fun e => h (.inr e)
      have hc : ¬ [62, 10].contains c = true := by
        simp only [List.contains_cons, List.contains_nil, Bool.or_false, Bool.or_eq_true, beq_iff_eq]; exact h
      have hp : pathEnd (c :: r) = pathEnd r + 1 := by
        unfold pathEnd; rw [List.findIdx_cons, beq_eq_false_iff_ne.2 h1, beq_eq_false_iff_ne.2 h2]; rfl
      rw [if_neg hc, ih, hp]
      by_cases hl : pathEnd r < r.length
      · have e1 : (if pathEnd r < r.length then ((pathEnd r : Nat) : Int) else -1) = (pathEnd r : Int) := if_pos hl
        have e2 : (if pathEnd r + 1 < (c :: r).length then ((pathEnd r + 1 : Nat) : Int) else -1) = ((pathEnd r + 1 : Nat) : Int) := if_pos (by simp; omega)
        rw [e1, e2, if_neg (by simp)]
        push_cast; rfl
      · have e1 : (if pathEnd r < r.length then ((pathEnd r : Nat) : Int) else -1) = -1 := if_neg hl
        have e2 : (if pathEnd r + 1 < (c :: r).length then ((pathEnd r + 1 : Nat) : Int) else -1) = -1 := if_neg (by simp; omega)
        rw [e1, e2]; rfl

theorem pre1 (a : UInt8) (l : List UInt8) : ([a].isPrefixOf l) = decide (l[0]? = some a) := by
  rcases l with _ | ⟨x, r⟩
  · rfl
  · apply bool_ext; simp [List.isPrefixOf]; exact ⟨fun h => h.symm, fun h => h.symm⟩

set_option maxHeartbeats 400000 in
theorem pathSize_any (s : ByteArray) (w : World) (hs : s.size < 4294967281) :
    Calls Tryz.prog 97 #[.string s] w fun e w' => e = .returned (.int .i64 (pathSz s.data.toList : Nat)) ∧ Below w.heap.size w w' := by
  have HP := hid (hasPrefix_any s ⟨#[60]⟩ w)
  have HI := hid (IndexAny_any s w hs)
  unfold endsB at HI
  rw [show (ByteArray.mk #[60]).data.toList = [60] from rfl, pre1] at HP
  by_cases h0 : s.data.toList[0]? = some 60
  · rw [decide_eq_true h0] at HP
    rw [indexAny_end] at HI
    by_cases hl : pathEnd s.data.toList < s.data.toList.length
    · rw [if_pos hl] at HI
      have hlt : pathEnd s.data.toList < s.size := by rw [← size_data]; exact hl
      have hk : s.data.toList[pathEnd s.data.toList]? = some (byteAt s.data.toList (pathEnd s.data.toList)) := by rw [List.getElem?_eq_getElem hl, byteAt_eq _ _ _ (List.getElem?_eq_getElem hl)]
      have HE : Hid ((pathSz s.data.toList : Nat) = if ((byteAt s.data.toList (pathEnd s.data.toList)).toNat : Int) = 62 then pathEnd s.data.toList + 1 else 0) := by
        show _ = _
        unfold pathSz
        rw [hk]
        simp only [h0, true_and, Option.some.injEq, u8i]
        rfl
      have HO : Hid (((byteAt s.data.toList (pathEnd s.data.toList)).toNat : Int) = 62 ∨ ((byteAt s.data.toList (pathEnd s.data.toList)).toNat : Int) = 10) := by
        have h1 : (fun c : UInt8 => c == 62 || c == 10) s.data.toList[pathEnd s.data.toList] = true := List.findIdx_getElem (w := hl)
        rw [← byteAt_eq _ _ _ (List.getElem?_eq_getElem hl)] at h1
        simp only [Bool.or_eq_true, beq_iff_eq, u8i] at h1
        exact h1
      clear h0 hl hk
      generalize pathSz s.data.toList = m at HE ⊢
      generalize pathEnd s.data.toList = k at HE HO HI hlt
      have hkb : (0 : Int) ≤ (k : Int) := by omega
      have HG := hid (byte_at s k hlt)
      go_enter Tryz.func97, Tryz.ntmps97
      go_wp2_with (first | (go_at_call 91; refine HP.out.mono ?_; rintro e w' ⟨rfl, hww⟩; subst w') | (go_at_call 117; refine HI.out.mono ?_; rintro e w' ⟨rfl, hbw⟩))
      all_goals go_ret
      all_goals first | (exfalso; omega) | (have HG2 := HG.out; have HE2 := HE.out; refine ⟨ret_int ?_, hbw⟩; rcases HO.out with h | h <;> simp_all <;> omega)
    · rw [if_neg hl] at HI
      have HE : Hid (pathSz s.data.toList = 0) := by
        show _ = _
        unfold pathSz
        rw [if_neg (fun h => by have := (List.getElem?_eq_some_iff.1 h.2).1; exact hl this)]
      clear h0 hl
      go_enter Tryz.func97, Tryz.ntmps97
      go_wp2_with (first | (go_at_call 91; refine HP.out.mono ?_; rintro e w' ⟨rfl, hww⟩; subst w') | (go_at_call 117; refine HI.out.mono ?_; rintro e w' ⟨rfl, hbw⟩))
      go_ret
      exact ⟨ret_int (by rw [HE.out]; rfl), hbw⟩
  · rw [decide_eq_false h0] at HP
    have HE : Hid (pathSz s.data.toList = 0) := by
      show _ = _
      unfold pathSz
      rw [if_neg (fun h => h0 h.1)]
    clear h0
    go_enter Tryz.func97, Tryz.ntmps97
    go_wp2_with (go_at_call 91; refine HP.out.mono ?_; rintro e w' ⟨rfl, hww⟩; subst w')
    go_ret
    exact ⟨ret_int (by rw [HE.out]; rfl), Below.refl _ _⟩

/-- What a slice of strings holds. -/
def SAt (w : World) (b : Nat) (l : List (List UInt8)) : Prop := b < w.heap.size ∧ ∀ (j : Nat) x, l[j]? = some x → w.cell? ⟨b, j, none⟩ = some (.string ⟨x.toArray⟩)
theorem SAt.below {w w' : World} {b : Nat} {l : List (List UInt8)} (h : SAt w b l) (hb : Below w.heap.size w w') : SAt w' b l :=
  ⟨Nat.lt_of_lt_of_le h.1 hb.size, fun j x hx => (hb.cell (p := ⟨b, j, none⟩) h.1).trans (h.2 j x hx)⟩

def firstPre (ss : List (List UInt8)) (l : List UInt8) : Nat := match ss.find? (·.isPrefixOf l) with | some s => s.length | none => 0

set_option maxHeartbeats 400000 in
theorem signSize_any (b c : Nat) (ss : List (List UInt8)) (s : ByteArray) (w : World) (hS : SAt w b ss) (hl : ss.length ≤ 1048576) :
    Calls Tryz.prog 99 #[.slice (some ⟨b, 0, none⟩) ss.length c, .string s] w fun e w' => e = .returned (.int .i64 (firstPre ss s.data.toList : Nat)) ∧ w' = w := by
  go_enter Tryz.func99, Tryz.ntmps99
  go_wp2
  go_loop [9] (fun x => ∃ j : Nat, j ≤ ss.length ∧ x = .int .i64 j ∧ Hid (firstPre ss s.data.toList = firstPre (ss.drop j) s.data.toList)) (fun x => ss.length - (intOf x).toNat)
  case atStart => exact ⟨0, Nat.zero_le _, rfl, rfl⟩
  case round =>
    obtain ⟨j, hj, rfl, HF⟩ := hrel
    by_cases hlt : j < ss.length
    · have hc := hS.2 j ss[j] (List.getElem?_eq_getElem hlt)
      have HP := hid (hasPrefix_any s ⟨ss[j].toArray⟩ w)
      have HD := hid (HF.out.trans (congrArg (fun l => firstPre l s.data.toList) (List.drop_eq_getElem_cons hlt)))
      have hsz : (⟨ss[j].toArray⟩ : ByteArray).size = ss[j].length := by show ss[j].toArray.size = _; simp
      have HPE : Hid ((⟨ss[j].toArray⟩ : ByteArray).data.toList = ss[j]) := by show _ = _; simp
      rw [HPE.out] at HP
      have hb := hS.1
      generalize ss[j] = x at hc HP HD hsz
      clear HPE HF
      cases hx : x.isPrefixOf s.data.toList with
      | true =>
        rw [hx] at HP
        have HE : Hid (firstPre ss s.data.toList = x.length) := by show _ = _; rw [HD.out]; simp [firstPre, hx]
        clear HD hx
        go_wp2_with (go_at_call 91; refine HP.out.mono ?_; rintro e w' ⟨rfl, hww⟩; subst w')
        go_ret
        exact ⟨ret_int (by rw [HE.out]), rfl⟩
      | false =>
        rw [hx] at HP
        have HE : Hid (firstPre ss s.data.toList = firstPre (ss.drop (j + 1)) s.data.toList) := by show _ = _; rw [HD.out]; simp [firstPre, hx]
        clear HD hx
        go_wp2_with (go_at_call 91; refine HP.out.mono ?_; rintro e w' ⟨rfl, hww⟩; subst w')
        go_round
        case rel => exact ⟨j + 1, by omega, by go_num, HE.out⟩
        case measure => simp [intOf]; omega
    · have HE : Hid (firstPre ss s.data.toList = 0) := by show _ = _; rw [HF.out, List.drop_eq_nil_of_le (by omega)]; rfl
      go_wp2
      go_ret
      exact ⟨ret_int (by rw [HE.out]; rfl), rfl⟩

theorem index_note : ∀ (l : List UInt8) (i : Nat), (match noteEnd l i with | some k => (k : Int) | none => -1) = if Lib.index l [42, 47] = -1 then -1 else Lib.index l [42, 47] + i
  | [], _ => rfl
  | [c], i => by
    have : Lib.index [c] [42, 47] = -1 := by simp [Lib.index, List.isPrefixOf]
    rw [if_pos this]; rfl
  | c :: d :: r, i => by
    have ih := index_note (d :: r) (i + 1)
    have hge := Lib.index_ge (d :: r) [42, 47]
    unfold Lib.index noteEnd
    by_cases h : c = 42 ∧ d = 47
    · have hp : [42, 47].isPrefixOf (c :: d :: r) = true := by rw [h.1, h.2]; rfl
      rw [if_pos h, if_pos hp]; simp
    · have hp : ¬ [42, 47].isPrefixOf (c :: d :: r) = true := by
        intro hp; apply h
        simp [List.isPrefixOf] at hp
        exact ⟨hp.1.symm, hp.2.symm⟩
      rw [if_neg h, if_neg hp, ih]
      generalize Lib.index (d :: r) [42, 47] = q at hge
      by_cases hm : q = -1
      · subst hm; rfl
      · have e : (if (q == -1) = true then (-1 : Int) else q + 1) = q + 1 := if_neg (by simpa using hm)
        rw [e, if_neg hm, if_neg (by omega)]; push_cast; omega

theorem index_len (sub : List UInt8) : ∀ (l : List UInt8), Lib.index l sub ≤ l.length
  | [] => by unfold Lib.index; split <;> simp
  | b :: l => by
    have ih := index_len sub l
    unfold Lib.index
    split
    · simp only [List.length_cons]; push_cast; omega
    · split
      · simp only [List.length_cons]; push_cast; omega
      · simp only [List.length_cons]; push_cast; omega

theorem note_at (l : List UInt8) : (match noteEnd l 0 with | some k => (k : Int) + 4 | none => -1) = if Lib.index l [42, 47] = -1 then -1 else Lib.index l [42, 47] + 4 := by
  have h := index_note l 0
  cases hn : noteEnd l 0 with
  | none =>
    rw [hn] at h
    simp only at h ⊢
    by_cases hm : Lib.index l [42, 47] = -1
    · rw [if_pos hm]
    · rw [if_neg hm] at h; simp only [Int.cast_ofNat_Int, Int.add_zero] at h; exact absurd h.symm hm
  | some k =>
    rw [hn] at h
    simp only at h ⊢
    by_cases hm : Lib.index l [42, 47] = -1
    · rw [if_pos hm] at h; omega
    · rw [if_neg hm] at h ⊢; simp only [Int.cast_ofNat_Int, Int.add_zero] at h; rw [h]

theorem blankSz_pre (l : List UInt8) (c : UInt8) (h : l[0]? = some c) : blankSz l = if c = 32 ∨ c = 9 ∨ c = 10 ∨ c = 13 then 1
    else if [47, 47].isPrefixOf l then ((spanN (fun i => byteAt l i != 10) l.length : Nat) : Int)
    else if [47, 42].isPrefixOf l then (if Lib.index (l.drop 2) [42, 47] = -1 then -1 else Lib.index (l.drop 2) [42, 47] + 4)
    else 0 := by
  cases l with
  | nil => cases h
  | cons c' r =>
    simp at h
    subst h
    rw [← note_at]
    unfold blankSz
    simp only [pre2, decide_eq_true_eq, List.getElem?_cons_zero, Option.some.injEq, List.getElem?_cons_succ, List.head?_eq_getElem?, List.drop_succ_cons, List.drop_one]
    rfl

theorem indexByte_blank (c : UInt8) : (0 ≤ Lib.indexByte [32, 9, 10, 13] c) ↔ (c = 32 ∨ c = 9 ∨ c = 10 ∨ c = 13) := by
  by_cases h1 : c = 32
  · subst h1; decide
  · by_cases h2 : c = 9
    · subst h2; decide
    · by_cases h3 : c = 10
      · subst h3; decide
      · by_cases h4 : c = 13
        · subst h4; decide
        · have e1 : ¬ (32 = c) := fun e => h1 e.symm
          have e2 : ¬ (9 = c) := fun e => h2 e.symm
          have e3 : ¬ (10 = c) := fun e => h3 e.symm
          have e4 : ¬ (13 = c) := fun e => h4 e.symm
          simp [Lib.indexByte, e1, e2, e3, e4, h1, h2, h3, h4]

theorem blankSize1_any (s : ByteArray) (B i : Nat) (w : World) (hi : i < s.size) (hB : w.cell? ⟨B, 0, none⟩ = some (.string s)) :
    Calls Tryz.prog 102 #[.int .i64 (i : Int), .pointer (some ⟨B, 0, none⟩)] w fun e w' => e = .returned (.bool (byteAt s.data.toList i != 10)) ∧ w' = w := by
  have HE : Hid (((s[i].toNat : Int) != 10) = (byteAt s.data.toList i != 10)) := by
    show _ = _
    rw [← byte_at s i hi]
    apply bool_ext
    simp only [bne_iff_ne, Ne, u8i]
    rfl
  go_enter Tryz.func102, Tryz.ntmps102
  go_wp2
  go_ret
  exact ⟨ret_bool HE.out, rfl⟩

/-- The library's variable holds some int. -/
def Mx (w : World) : Prop := ∃ m, w.cell? ⟨0, 0, none⟩ = some (.int .i64 m)
theorem Mx.below {w w' : World} (h : Mx w) (hb : Below w.heap.size w w') : Mx w' := by
  obtain ⟨m, hm⟩ := h
  exact ⟨m, (hb.cell (p := ⟨0, 0, none⟩) (World.block_lt_of_cell? _ _ hm)).trans hm⟩

set_option maxHeartbeats 1000000 in
theorem blankSize_any (s : ByteArray) (w : World) (hm : Mx w) (hs : s.size < 4294967281) :
    Calls Tryz.prog 84 #[.string s] w fun e w' => e = .returned (.int .i64 (blankSz s.data.toList)) ∧ Below w.heap.size w w' := by
  have HB := hid ((Below.refl _ w).alloc (Nat.le_refl _) (.cells #[.string s] 9))
  by_cases h0 : s.size = 0
  · obtain rfl := empty_of h0
    go_enter Tryz.func84, Tryz.ntmps84
    go_wp2
    go_ret
    exact ⟨rfl, HB.out⟩
  · have h1 : 1 ≤ s.size := by omega
    have he := isEmpty_false h1
    have hz : (0 : Int) < (s.size : Int) := by omega
    have hz2 : 0 < s.size := by omega
    have HE := hid (blankSz_pre s.data.toList s[0] (by rw [List.getElem?_eq_getElem (by rw [size_data]; exact hz2)]; rfl))
    have HI : Hid (∀ W, Calls Tryz.prog 100 #[.string ⟨#[32, 9, 10, 13]⟩, .int .u8 (s[0].toNat : Int)] W fun e w' => e = .returned (.int .i64 (Lib.indexByte [32, 9, 10, 13] s[0])) ∧ w' = W) := fun W => by
      have := Tryz.strings_IndexByte ⟨#[32, 9, 10, 13]⟩ (s[0].toNat : Int) W
      rw [show ((s[0].toNat : Int)).toNat.toUInt8 = s[0] by simp] at this
      exact this
    have hib := indexByte_blank s[0]
    have HP := hid (fun (p : ByteArray) W => hasPrefix_any s p W)
    clear h0
    by_cases hb : s[0] = 32 ∨ s[0] = 9 ∨ s[0] = 10 ∨ s[0] = 13
    · have hge := hib.2 hb
      have HE2 : Hid (blankSz s.data.toList = 1) := HE.out.trans (if_pos hb)
      clear hib hb HE
      generalize Lib.indexByte [32, 9, 10, 13] s[0] = q at hge HI
      go_enter Tryz.func84, Tryz.ntmps84
      go_wp2_with (go_at_call 100; refine (HI.out _).mono ?_; rintro e w' ⟨rfl, hww⟩; subst w')
      go_ret
      exact ⟨ret_int HE2.out.symm, HB.out⟩
    · have hlt : ¬ ((0 : Int) ≤ Lib.indexByte [32, 9, 10, 13] s[0]) := fun h => hb (hib.1 h)
      have HE1 := hid (HE.out.trans (if_neg hb))
      clear hib hb HE
      generalize Lib.indexByte [32, 9, 10, 13] s[0] = q at hlt HI
      cases hp1 : [47, 47].isPrefixOf s.data.toList with
      | true =>
        rw [hp1] at HE1
        have HE2 := hid (HE1.out.trans (if_pos rfl))
        have HSp := hid (span_any s 102 w.heap.size (fun i => byteAt s.data.toList i != 10) (w.alloc (.cells #[.string s] 9)) (enters_of Tryz.func102 (by kernel_rfl) rfl)
          (fun i _ hi => blankSize1_any s w.heap.size i _ hi (by rw [World.cell?_alloc_mark]; rfl)) h1 (by unfold maxLen; omega))
        rw [size_data] at HE2
        clear HE1
        go_enter Tryz.func84, Tryz.ntmps84
        go_wp2_with (first | (go_at_call 100; refine (HI.out _).mono ?_; rintro e w' ⟨rfl, hww⟩; subst w') | (go_at_call 91; refine (HP.out _ _).mono ?_; rintro e w' ⟨rfl, hww⟩; subst w') | (go_at_call 101; refine HSp.out.mono ?_; rintro e w' ⟨rfl, hww⟩; subst w'))
        go_ret
        exact ⟨ret_int HE2.out.symm, HB.out⟩
      | false =>
        rw [hp1] at HE1
        have HE2 := hid (HE1.out.trans (if_neg Bool.false_ne_true))
        clear HE1
        cases hp2 : [47, 42].isPrefixOf s.data.toList with
        | false =>
          rw [hp2] at HE2
          have HE3 := hid (HE2.out.trans (if_neg Bool.false_ne_true))
          clear HE2
          go_enter Tryz.func84, Tryz.ntmps84
          go_wp2_with (first | (go_at_call 100; refine (HI.out _).mono ?_; rintro e w' ⟨rfl, hww⟩; subst w') | (go_at_call 91; refine (HP.out _ _).mono ?_; rintro e w' ⟨rfl, hww⟩; subst w'))
          go_ret
          exact ⟨ret_int HE3.out.symm, HB.out⟩
        | true =>
          have hs2 : 2 ≤ s.size := by
            have hp3 := (prefix_iff _ _).1 hp2
            have := congrArg List.length hp3
            simp at this
            omega
          rw [hp2] at HE2
          have HE3 := hid (HE2.out.trans (if_pos rfl))
          obtain ⟨m, hmx⟩ := hm.below HB.out
          have HX : Hid (Calls Tryz.prog 89 #[.string (s.extract 2 s.size), .string ⟨#[42, 47]⟩] (w.alloc (.cells #[.string s] 9)) fun e w' => e = .returned (.int .i64 (Lib.index (s.data.toList.drop 2) [42, 47])) ∧ w' = w.alloc (.cells #[.string s] 9)) := by
            have := Tryz.strings_Index (s.extract 2 s.size) ⟨#[42, 47]⟩ m (w.alloc (.cells #[.string s] 9)) (by simp [ByteArray.size_extract]; omega) hmx
            rw [extract_data, ← size_data s, List.take_length, size_data s] at this
            exact this
          have hge := Lib.index_ge (s.data.toList.drop 2) [42, 47]
          have hle : Lib.index (s.data.toList.drop 2) [42, 47] ≤ 4294967296 := by
            have := index_len [42, 47] (s.data.toList.drop 2)
            rw [List.length_drop, size_data] at this
            omega
          generalize Lib.index (s.data.toList.drop 2) [42, 47] = k at HE3 HX hge hle
          clear HE2 hmx hm
          by_cases hk : k = -1
          · subst hk
            go_enter Tryz.func84, Tryz.ntmps84
            go_wp2_with (first | (go_at_call 100; refine (HI.out _).mono ?_; rintro e w' ⟨rfl, hww⟩; subst w') | (go_at_call 91; refine (HP.out _ _).mono ?_; rintro e w' ⟨rfl, hww⟩; subst w') | (go_at_call 89; refine HX.out.mono ?_; rintro e w' ⟨rfl, hww⟩; subst w'))
            go_ret
            exact ⟨ret_int HE3.out.symm, HB.out⟩
          · have HE4 := hid (HE3.out.trans (if_neg hk))
            have hk0 : 0 ≤ k := by omega
            clear hk HE3
            go_enter Tryz.func84, Tryz.ntmps84
            go_wp2_with (first | (go_at_call 100; refine (HI.out _).mono ?_; rintro e w' ⟨rfl, hww⟩; subst w') | (go_at_call 91; refine (HP.out _ _).mono ?_; rintro e w' ⟨rfl, hww⟩; subst w') | (go_at_call 89; refine HX.out.mono ?_; rintro e w' ⟨rfl, hww⟩; subst w'))
            go_ret
            exact ⟨ret_int (by rw [HE4.out]; omega), HB.out⟩
end Go.Proofs.YteklakpfbkcegaaGreatDoor
