/- Walks of the document's own Letter, Digit, Name, Number and Quoted. -/
import Derived.Test.YtkfbhknhjpmomaaLxNA
import Derived.Test.YtkfbhknhjpmomaaLxB
namespace Go.Proofs.Ytkfbhknhjpmomaa
open Go.RowKit Go.Shelf

theorem RLetter_any (c : UInt8) (w : World) :
    Calls Try.prog 49 #[.int .u8 (c.toNat : Int)] w fun e w' => e = .returned (.bool (letB c)) ∧ w' = w := by
  go_enter Try.func49, Try.ntmps49
  go_wp2
  all_goals go_ret
  all_goals exact ⟨ret_bool (bool_ext (by simp [letB]; omega)), rfl⟩
theorem RDigit_any (c : UInt8) (w : World) :
    Calls Try.prog 50 #[.int .u8 (c.toNat : Int)] w fun e w' => e = .returned (.bool (digB c)) ∧ w' = w := by
  go_enter Try.func50, Try.ntmps50
  go_wp2
  all_goals go_ret
  all_goals exact ⟨ret_bool (bool_ext (by simp [digB]; omega)), rfl⟩

/-- Whether byte k goes on with a number that begins a text. -/
def numG (l : List UInt8) (k : Nat) : Bool := if k = 0 then wordB (byteAt l 0) || decide (byteAt l 0 = 46) else numB l k
theorem num_end (l : List UInt8) (h : startsNum l = true) (k : Nat) (hk : k ≤ l.length) (h1 : ∀ i, i < k → numG l i = true) (h2 : k < l.length → numG l k = false) : numSz l = k := by
  have hp : 0 < l.length := by
    cases l with
    | nil => cases h
    | cons c r => simp
  have h0 : numG l 0 = true := by
    unfold numG
    rw [if_pos rfl]
    cases l with
    | nil => cases h
    | cons c r =>
      show (wordB c || decide (c = 46)) = true
      unfold startsNum at h
      simp only at h
      split at h
      · rename_i e; simp [e]
      · simp [wordB, h]
  have hk1 : 1 ≤ k := by
    rcases Nat.eq_zero_or_pos k with h | h
    · subst h; have := h2 hp; rw [h0] at this; cases this
    · exact h
  have e : ∀ i, 1 ≤ i → numG l i = numB l i := fun i hi => by unfold numG; rw [if_neg (by omega)]
  unfold numSz
  rw [if_pos h]
  exact spanN_eq _ _ _ hk1 hk (fun i a b => by rw [← e i a]; exact h1 i b) (fun hl => by rw [← e k hk1]; exact h2 hl)
theorem extract_zero (s : ByteArray) : s.extract 0 0 = ⟨#[]⟩ := by
  apply ByteArray.ext; apply Array.ext'; rw [extract_data]; simp
theorem ub46 : ((UInt8.toNat 46 : Nat) : Int) = 46 := rfl
theorem ub43 : ((UInt8.toNat 43 : Nat) : Int) = 43 := rfl
theorem ub45 : ((UInt8.toNat 45 : Nat) : Int) = 45 := rfl
theorem ub101 : ((UInt8.toNat 101 : Nat) : Int) = 101 := rfl
theorem ub69 : ((UInt8.toNat 69 : Nat) : Int) = 69 := rfl
theorem byte_int (s : ByteArray) (i : Nat) (h : i < s.size) (c : UInt8) : byteAt s.data.toList i = c ↔ (s[i].toNat : Int) = (c.toNat : Int) := by
  rw [← byte_at s i h, u8i]
theorem ret_str {a b : ByteArray} (h : a = b) : Ending.returned (.string a) = .returned (.string b) := by rw [h]

def nameB (l : List UInt8) (j : Nat) : Prop := letB (byteAt l j) = true ∨ (j ≠ 0 ∧ digB (byteAt l j) = true)
theorem upto_snoc {q : Nat → Prop} {i : Nat} (h : ∀ j, j < i → q j) (hi : q i) : ∀ j, j < i + 1 → q j := fun j hj => by
  by_cases e : j = i
  · subst e; exact hi
  · exact h j (by omega)

set_option maxRecDepth 100000 in
set_option maxHeartbeats 2000000 in
theorem RNumber_any (s : ByteArray) (w : World) (hs : s.size ≤ maxLen) (h : startsNum s.data.toList = true) :
    Calls Try.prog 51 #[.string s] w fun e w' => e = .returned (.string (s.extract 0 (numSz s.data.toList))) ∧ Below w.heap.size w w' := by
  unfold maxLen at hs
  have HL0 := hid (fun c w => RLetter_any c w)
  have HD0 := hid (fun c w => RDigit_any c w)
  have HN := hid (num_end s.data.toList h)
  rw [size_data] at HN
  generalize numSz s.data.toList = m at HN ⊢
  clear h
  go_enter Try.func51, Try.ntmps51
  go_wp2_with fail
  go_loop [3] (fun x => ∃ k : Nat, k ≤ s.size ∧ x = .int .i64 k ∧ Hid (∀ j, j < k → numG s.data.toList j = true)) (fun x => s.size - (intOf x).toNat)
  case atStart => exact ⟨0, Nat.zero_le _, rfl, fun j hj => by omega⟩
  case round =>
    obtain ⟨k, hk, rfl, HR⟩ := hrel
    by_cases hlt : k < s.size
    · have HL := hid (HL0.out s[k] w)
      have HD := hid (HD0.out s[k] w)
      have HGo := hid (fun h : numG s.data.toList k = true => upto_snoc (q := fun j => numG s.data.toList j = true) HR.out h)
      have HSt := hid (fun h : numG s.data.toList k = false => HN.out k hk HR.out (fun _ => h))
      have HG := hid (show numG s.data.toList k = if k = 0 then wordB (byteAt s.data.toList k) || decide (byteAt s.data.toList k = 46) else numB s.data.toList k by unfold numG; by_cases h : k = 0 <;> simp [h])
      rw [numB, ← byte_at s k hlt] at HG
      rw [HG.out] at HGo HSt
      simp only [u8i, ub46, ub43, ub45, ub101, ub69] at HGo HSt
      clear HG HL0 HD0 HR HN
      unfold wordB at HGo HSt
      have hLd : ∀ c : UInt8, (c.toNat : Int) = 46 ∨ (c.toNat : Int) = 43 ∨ (c.toNat : Int) = 45 → letB c = false ∧ digB c = false := fun c h => by
        simp [letB, digB]; omega
      by_cases h46 : (s[k].toNat : Int) = 46
      · have HGo2 := hid (HGo.out (by rw [h46]; by_cases h : k = 0 <;> simp [h]))
        clear HGo HSt hLd
        have n1 : ((s[k].toNat : Int) == 43) = false := by rw [h46]; rfl
        have n2 : ((s[k].toNat : Int) == 45) = false := by rw [h46]; rfl
        have n3 : ((s[k].toNat : Int) != 46) = false := by rw [h46]; rfl
        go_wp2_with fail
        go_round
        case rel => exact ⟨k + 1, by omega, by go_num, HGo2.out⟩
        case measure => simp [intOf]; omega
      · have n3 : ((s[k].toNat : Int) != 46) = true := by simpa using h46
        by_cases hpm : (s[k].toNat : Int) = 43 ∨ (s[k].toNat : Int) = 45
        · obtain ⟨hl, hd⟩ := hLd s[k] (.inr hpm)
          have HL43 : Hid (Calls Try.prog 49 #[.int .u8 43] w fun e w' => e = .returned (.bool false) ∧ w' = w) := RLetter_any 43 w
          have HD43 : Hid (Calls Try.prog 50 #[.int .u8 43] w fun e w' => e = .returned (.bool false) ∧ w' = w) := RDigit_any 43 w
          have HL45 : Hid (Calls Try.prog 49 #[.int .u8 45] w fun e w' => e = .returned (.bool false) ∧ w' = w) := RLetter_any 45 w
          have HD45 : Hid (Calls Try.prog 50 #[.int .u8 45] w fun e w' => e = .returned (.bool false) ∧ w' = w) := RDigit_any 45 w
          clear HL HD
          by_cases h0 : k = 0
          · subst h0
            have HS2 := hid (HSt.out (by rw [hl, hd]; simp; omega))
            clear HGo HSt hLd hl hd
            rcases hpm with h | h
            · have n1 : ((s[0].toNat : Int) == 43) = true := by rw [h]; rfl
              go_wp2_with (first | (go_at_call 49; refine HL43.out.mono ?_; rintro e w' ⟨rfl, hww⟩; subst w') | (go_at_call 50; refine HD43.out.mono ?_; rintro e w' ⟨rfl, hww⟩; subst w'))
              go_ret
              exact ⟨ret_str (by rw [HS2.out]; first | done | exact (extract_zero s).symm), Below.refl _ _⟩
            · have n1 : ((s[0].toNat : Int) == 43) = false := by rw [h]; rfl
              have n2 : ((s[0].toNat : Int) == 45) = true := by rw [h]; rfl
              go_wp2_with (first | (go_at_call 49; refine HL45.out.mono ?_; rintro e w' ⟨rfl, hww⟩; subst w') | (go_at_call 50; refine HD45.out.mono ?_; rintro e w' ⟨rfl, hww⟩; subst w'))
              go_ret
              exact ⟨ret_str (by rw [HS2.out]; first | done | exact (extract_zero s).symm), Below.refl _ _⟩
          · obtain ⟨j, rfl⟩ : ∃ j, k = j + 1 := ⟨k - 1, by omega⟩
            have hj : j < s.size := by omega
            rw [Nat.add_sub_cancel, ← byte_at s j hj] at HGo HSt
            have HGo2 := hid (fun h : (s[j].toNat : Int) = 101 ∨ (s[j].toNat : Int) = 69 => HGo.out (by rw [if_neg h0, if_neg h46, if_pos hpm]; simp; rcases h with h | h; exact .inl h; exact .inr h))
            have HSt2 := hid (fun h : ¬((s[j].toNat : Int) = 101 ∨ (s[j].toNat : Int) = 69) => HSt.out (by rw [if_neg h0, if_neg h46, if_pos hpm]; simp; exact ⟨fun e => h (.inl e), fun e => h (.inr e)⟩))
            clear HGo HSt hLd hl hd h0
            by_cases he : (s[j].toNat : Int) = 101 ∨ (s[j].toNat : Int) = 69
            · have HG3 := hid (HGo2.out he)
              clear HGo2 HSt2
              rcases hpm with h | h
              · have n1 : ((s[j + 1].toNat : Int) == 43) = true := by rw [h]; rfl
                rcases he with he | he
                · have n5 : ((s[j].toNat : Int) == 101) = true := by rw [he]; rfl
                  go_wp2_with (first | (go_at_call 49; refine HL43.out.mono ?_; rintro e w' ⟨rfl, hww⟩; subst w') | (go_at_call 50; refine HD43.out.mono ?_; rintro e w' ⟨rfl, hww⟩; subst w'))
                  go_round
                  case rel => exact ⟨j + 1 + 1, by omega, by go_num, HG3.out⟩
                  case measure => simp [intOf]; omega
                · have n5 : ((s[j].toNat : Int) == 101) = false := by rw [he]; rfl
                  have n6 : ((s[j].toNat : Int) == 69) = true := by rw [he]; rfl
                  go_wp2_with (first | (go_at_call 49; refine HL43.out.mono ?_; rintro e w' ⟨rfl, hww⟩; subst w') | (go_at_call 50; refine HD43.out.mono ?_; rintro e w' ⟨rfl, hww⟩; subst w'))
                  go_round
                  case rel => exact ⟨j + 1 + 1, by omega, by go_num, HG3.out⟩
                  case measure => simp [intOf]; omega
              · have n1 : ((s[j + 1].toNat : Int) == 43) = false := by rw [h]; rfl
                have n2 : ((s[j + 1].toNat : Int) == 45) = true := by rw [h]; rfl
                rcases he with he | he
                · have n5 : ((s[j].toNat : Int) == 101) = true := by rw [he]; rfl
                  go_wp2_with (first | (go_at_call 49; refine HL45.out.mono ?_; rintro e w' ⟨rfl, hww⟩; subst w') | (go_at_call 50; refine HD45.out.mono ?_; rintro e w' ⟨rfl, hww⟩; subst w'))
                  go_round
                  case rel => exact ⟨j + 1 + 1, by omega, by go_num, HG3.out⟩
                  case measure => simp [intOf]; omega
                · have n5 : ((s[j].toNat : Int) == 101) = false := by rw [he]; rfl
                  have n6 : ((s[j].toNat : Int) == 69) = true := by rw [he]; rfl
                  go_wp2_with (first | (go_at_call 49; refine HL45.out.mono ?_; rintro e w' ⟨rfl, hww⟩; subst w') | (go_at_call 50; refine HD45.out.mono ?_; rintro e w' ⟨rfl, hww⟩; subst w'))
                  go_round
                  case rel => exact ⟨j + 1 + 1, by omega, by go_num, HG3.out⟩
                  case measure => simp [intOf]; omega
            · have HS3 := hid (HSt2.out he)
              have n5 : ((s[j].toNat : Int) == 101) = false := by simp; omega
              have n6 : ((s[j].toNat : Int) == 69) = false := by simp; omega
              clear HGo2 HSt2 he
              rcases hpm with h | h
              · have n1 : ((s[j + 1].toNat : Int) == 43) = true := by rw [h]; rfl
                go_wp2_with (first | (go_at_call 49; refine HL43.out.mono ?_; rintro e w' ⟨rfl, hww⟩; subst w') | (go_at_call 50; refine HD43.out.mono ?_; rintro e w' ⟨rfl, hww⟩; subst w'))
                go_ret
                exact ⟨ret_str (by rw [HS3.out]), Below.refl _ _⟩
              · have n1 : ((s[j + 1].toNat : Int) == 43) = false := by rw [h]; rfl
                have n2 : ((s[j + 1].toNat : Int) == 45) = true := by rw [h]; rfl
                go_wp2_with (first | (go_at_call 49; refine HL45.out.mono ?_; rintro e w' ⟨rfl, hww⟩; subst w') | (go_at_call 50; refine HD45.out.mono ?_; rintro e w' ⟨rfl, hww⟩; subst w'))
                go_ret
                exact ⟨ret_str (by rw [HS3.out]), Below.refl _ _⟩
        · have n1 : ((s[k].toNat : Int) == 43) = false := by simp; omega
          have n2 : ((s[k].toNat : Int) == 45) = false := by simp; omega
          have HGo2 := hid (fun h : (letB s[k] || digB s[k]) = true => HGo.out (by rw [if_neg h46, if_neg hpm, h]; split <;> rfl))
          have HSt2 := hid (fun h : (letB s[k] || digB s[k]) = false => HSt.out (by rw [if_neg h46, if_neg hpm, h]; split <;> simp; omega))
          generalize hl0 : letB s[k] = bl at HL HGo2 HSt2
          generalize hd0 : digB s[k] = bd at HD HGo2 HSt2
          clear HGo HSt hLd hl0 hd0 hpm
          cases bl with
          | true =>
            have HG3 := hid (HGo2.out (by simp))
            clear HGo2 HSt2
            go_wp2_with (first | (go_at_call 49; refine HL.out.mono ?_; rintro e w' ⟨rfl, hww⟩; subst w') | (go_at_call 50; refine HD.out.mono ?_; rintro e w' ⟨rfl, hww⟩; subst w'))
            go_round
            case rel => exact ⟨k + 1, by omega, by go_num, HG3.out⟩
            case measure => simp [intOf]; omega
          | false =>
            cases bd with
            | true =>
              have HG3 := hid (HGo2.out (by simp))
              clear HGo2 HSt2
              go_wp2_with (first | (go_at_call 49; refine HL.out.mono ?_; rintro e w' ⟨rfl, hww⟩; subst w') | (go_at_call 50; refine HD.out.mono ?_; rintro e w' ⟨rfl, hww⟩; subst w'))
              go_round
              case rel => exact ⟨k + 1, by omega, by go_num, HG3.out⟩
              case measure => simp [intOf]; omega
            | false =>
              have HS3 := hid (HSt2.out (by simp))
              clear HGo2 HSt2
              go_wp2_with (first | (go_at_call 49; refine HL.out.mono ?_; rintro e w' ⟨rfl, hww⟩; subst w') | (go_at_call 50; refine HD.out.mono ?_; rintro e w' ⟨rfl, hww⟩; subst w'))
              go_ret
              exact ⟨ret_str (by rw [HS3.out]), Below.refl _ _⟩
    · have HE := hid (HN.out k hk HR.out (fun h => by omega))
      go_wp2
      go_ret
      exact ⟨ret_str (by rw [HE.out]), Below.refl _ _⟩

set_option maxRecDepth 100000 in
set_option maxHeartbeats 2000000 in
theorem RQuoted_any (s : ByteArray) (q : UInt8) (w : World) (hs : s.size ≤ maxLen) (h1 : 1 ≤ s.size) (hq : (s[0].toNat : Int) = (q.toNat : Int)) :
    Calls Try.prog 52 #[.string s] w fun e w' => e = .returned (.string (s.extract 0 (quotSz q s.data.toList).toNat)) ∧ Below w.heap.size w w' := by
  unfold maxLen at hs
  have hq0 : quotSz q s.data.toList = quotGo q (s.data.toList.drop 1) 1 := quot_first q s.data.toList (fun e => by have := size_data s; rw [e] at this; simp at this; omega) ((byte_int s 0 (by omega) q).2 hq)
  have HQ := hid hq0
  clear hq0
  go_enter Try.func52, Try.ntmps52
  go_wp2_with fail
  go_loopw [3] (fun x wr => ∃ k : Nat, 1 ≤ k ∧ k ≤ s.size ∧ x = .int .i64 k ∧ Hid (quotSz q s.data.toList = quotGo q (s.data.toList.drop k) k ∧ Below w.heap.size w wr)) (fun x _ => s.size - (intOf x).toNat)
  case atStart => exact ⟨1, Nat.le_refl _, h1, rfl, HQ.out, Below.refl _ _⟩
  case round =>
    obtain ⟨k, hk1, hk, rfl, HR⟩ := hrel
    clear HQ
    by_cases hlt : k < s.size
    · have hst := quotGo_step q s.data.toList k s[k] (by rw [List.getElem?_eq_getElem (by rw [size_data]; exact hlt)]; rfl)
      have HV := hid (HR.out.1.trans hst)
      have HBw := hid HR.out.2
      clear hst HR
      simp only [u8i, Ne, size_data, ← hq] at HV
      have hz : (0 : Int) < (s.size : Int) := by omega
      have hz2 : 0 < s.size := by omega
      by_cases h10 : (s[k].toNat : Int) = 10
      · have HE := hid (show quotSz q s.data.toList = -1 by rw [HV.out, if_pos (by rw [h10]; rfl)])
        clear HV
        go_wp2
        go_ret
        exact ⟨ret_str (by rw [HE.out]; exact (extract_zero s).symm), HBw.out⟩
      · by_cases hcq : (s[k].toNat : Int) = (s[0].toNat : Int)
        · have HE := hid (show quotSz q s.data.toList = (k : Int) + 1 by rw [HV.out, if_neg (by intro h; exact h10 h), if_pos hcq])
          have hbq : ((s[k].toNat : Int) == (s[0].toNat : Int)) = true := by simpa using hcq
          have HBn := hid (fun n => below_drewN HBw.out n)
          clear HV hcq
          go_wp2_with fail
          go_quiet (fail)
          go_wp2
          go_ret
          exact ⟨ret_str (by rw [HE.out]; rfl), HBn.out _⟩
        · have hbq : ((s[k].toNat : Int) == (s[0].toNat : Int)) = false := by simpa using hcq
          have HV2 := hid (HV.out.trans ((if_neg (by intro h; exact h10 h)).trans (if_neg hcq)))
          have HBn := hid (fun n => below_drewN HBw.out n)
          clear HV hcq
          by_cases h92 : (s[k].toNat : Int) = 92
          · by_cases hk2 : k + 1 < s.size
            · by_cases hn : (s[k + 1].toNat : Int) = 10
              · have HE := hid (HV2.out.trans (if_neg (by rintro ⟨_, _, h⟩; exact h (by rw [← byte_at s (k + 1) hk2, hn]; rfl))))
                go_wp2_with fail
                go_quiet (fail)
                go_wp2
                go_roundw
                case rel => exact ⟨k + 1, by omega, by omega, by go_num, HE.out, HBn.out _⟩
                case measure => simp [intOf]; omega
              · have HE := hid (HV2.out.trans (if_pos ⟨h92, hk2, by rw [← byte_at s (k + 1) hk2]; exact hn⟩))
                go_wp2_with fail
                go_quiet (fail)
                go_wp2
                go_roundw
                case rel => exact ⟨k + 2, by omega, by omega, by go_num, HE.out, HBn.out _⟩
                case measure => simp [intOf]; omega
            · have HE := hid (HV2.out.trans (if_neg (by rintro ⟨_, h, _⟩; exact hk2 h)))
              have hk3 : ¬ ((k : Int) + 1 < (s.size : Int)) := by omega
              go_wp2_with fail
              go_quiet (fail)
              go_wp2
              go_roundw
              case rel => exact ⟨k + 1, by omega, by omega, by go_num, HE.out, HBn.out _⟩
              case measure => simp [intOf]; omega
          · have HE := hid (HV2.out.trans (if_neg (by rintro ⟨h, _⟩; exact h92 h)))
            go_wp2_with fail
            go_quiet (fail)
            go_wp2
            go_roundw
            case rel => exact ⟨k + 1, by omega, by omega, by go_num, HE.out, HBn.out _⟩
            case measure => simp [intOf]; omega
    · have HE := hid (HR.out.1.trans (quotGo_end q s.data.toList k (by rw [size_data]; omega)))
      have HBw := hid HR.out.2
      clear HR
      go_wp2
      go_ret
      exact ⟨ret_str (by rw [HE.out]; exact (extract_zero s).symm), HBw.out⟩
end Go.Proofs.Ytkfbhknhjpmomaa
