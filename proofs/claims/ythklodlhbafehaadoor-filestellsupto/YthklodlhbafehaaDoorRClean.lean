/- Walk of the document's own Clean: a call returns what Clean's spec says. -/
import Derived.Test.YthklodlhbafehaaDoorRSplit
namespace Go.Proofs.YthklodlhbafehaaDoor
open Go.RowKit Go.Shelf

def letterB (c : Int) : Bool := (97 ≤ c && c ≤ 122) || (65 ≤ c && c ≤ 90) || c == 95
def digitB (c : Int) : Bool := 48 ≤ c && c ≤ 57
theorem letterB_iff (c : Int) : letterB c = true ↔ (97 ≤ c ∧ c ≤ 122) ∨ (65 ≤ c ∧ c ≤ 90) ∨ c = 95 := by simp [letterB, or_assoc]
theorem digitB_iff (c : Int) : digitB c = true ↔ (48 ≤ c ∧ c ≤ 57) := by simp [digitB]
theorem inName_split (c : Int) : inNameB c = (letterB c || digitB c || c == 46) := by
  apply bool_ext
  rw [inNameB_iff, Bool.or_eq_true, Bool.or_eq_true, letterB_iff, digitB_iff, beq_iff_eq]
  omega

set_option maxHeartbeats 400000 in
theorem letter_any (c : Int) (w : World) : Calls Tryd.prog 24 #[.int .u8 c] w fun e w' => e = .returned (.bool (letterB c)) ∧ w' = w := by
  go_enter Tryd.func24, Tryd.ntmps24
  go_wp2
  all_goals go_ret
  all_goals (refine ⟨ret_bool (bool_ext ?_), rfl⟩; rw [letterB_iff]; try simp only [Bool.or_eq_true, beq_iff_eq, true_iff, decide_eq_true_eq])
  all_goals first | omega | (simp; done) | (simp; omega)
set_option maxHeartbeats 400000 in
theorem digit_any (c : Int) (w : World) : Calls Tryd.prog 25 #[.int .u8 c] w fun e w' => e = .returned (.bool (digitB c)) ∧ w' = w := by
  go_enter Tryd.func25, Tryd.ntmps25
  go_wp2
  all_goals go_ret
  all_goals (refine ⟨ret_bool (bool_ext ?_), rfl⟩; rw [digitB_iff]; try simp only [decide_eq_true_eq])
  all_goals first | omega | (simp; done) | (simp; omega)

/-- A row of strings that a call owns. -/
theorem row_strs {w : World} {base : Nat} {v : Value} {ps : List (List UInt8)} (h : w.ownsRow base 9 1 v ps.length (strs ps)) (h0 : ps ≠ []) :
    ∃ g cap, v = .slice (some ⟨g, 0, none⟩) ps.length cap ∧ base ≤ g ∧ g < w.heap.size ∧ ∀ k (hk : k < ps.length), w.cell? ⟨g, k, none⟩ = some (.string (toB ps[k])) := by
  rcases h.2 with ⟨_, hn⟩ | ⟨g, cap, cur, rfl, hb, hg, hn, hc, hs, ht⟩
  · exact absurd (List.eq_nil_of_length_eq_zero hn) h0
  · refine ⟨g, cap, rfl, hb, (Array.getElem?_eq_some_iff.1 hg).1, fun k hk => ?_⟩
    rw [Go.Joins.cell_of_block hg]
    have h1 : (cur.toList.take (ps.length * 1))[k]? = some (.string (toB ps[k])) := by rw [ht]; simp [strs, hk]
    rw [List.getElem?_take_of_lt (by omega), Array.getElem?_toList] at h1
    exact h1

theorem cleanB_pcs (s : ByteArray) : cleanB s = (decide (s.size ≤ 40) && (pcsL s.data.toList).all nameOk) := by
  unfold cleanB; rw [pcsB_eq, List.all_map]; rfl

set_option maxRecDepth 100000 in
set_option maxHeartbeats 1000000 in
theorem rclean_short (s : ByteArray) (w : World) (hs : s.size ≤ 40) :
    Calls Tryd.prog 8 #[.string s] w fun e w' => e = .returned (.bool ((pcsL s.data.toList).all nameOk)) ∧ Below w.heap.size w w' := by
  have hsp := rsplit_any s w (by omega)
  have hlen := pcsL_len s.data.toList
  have hcnt := pcsL_length s.data.toList
  have hne := pcsL_ne s.data.toList
  generalize pcsL s.data.toList = ps at *
  have HS := hid hsp
  have hd : decide (40 < (s.size : Int)) = false := by simp; omega
  clear hsp
  go_enter Tryd.func8, Tryd.ntmps8
  go_wp2_with fail
  refine HS.out.mono ?_
  rintro e w1 ⟨v, rfl, hown, hb1⟩
  obtain ⟨g, cap, rfl, hbg, hgl, hcells⟩ := row_strs hown hne
  have HB := hid hb1
  clear hown hb1 HS
  go_wp2_with fail
  go_loop [13] (fun i => ∃ k : Nat, k ≤ ps.length ∧ i = .int .i64 k ∧ Hid ((ps.take k).all nameOk = true)) (fun i => ps.length - (intOf i).toNat)
  case atStart => exact ⟨0, Nat.zero_le _, rfl, by simp [Hid]⟩
  case round =>
    obtain ⟨k, hk, rfl, HA⟩ := hrel
    by_cases hlt : k < ps.length
    · have hcl := hcells k hlt
      have hsz := hlen ps[k] (List.getElem_mem hlt)
      have HT : Hid ((ps.take (k + 1)).all nameOk = ((ps.take k).all nameOk && nameOk ps[k])) := by show _ = _; rw [List.take_succ_eq_append_getElem hlt, List.all_append]; simp
      have HF : nameOk ps[k] = false → Hid (ps.all nameOk = false) := fun h => by show _ = _; rw [List.all_eq_false]; exact ⟨ps[k], List.getElem_mem hlt, by simp [h]⟩
      generalize ps[k] = p at hcl hsz HT HF
      have hss : s.data.toList.length = s.size := by simp
      have hq : (toB p).size ≤ 40 := by rw [size_toB]; omega
      rw [← data_toB p] at HT HF
      generalize toB p = q at hcl hq HT HF
      have HL : Hid (q.data.toList = q.toList) := (ByteArray.toList_eq q).symm
      clear hsz
      by_cases h : q.toList.isEmpty = true ∨ (q.toList == [46]) = true ∨ (q.toList == [46, 46]) = true
      · have hno : nameOk q.data.toList = false := by
          rw [HL.out]; simp [nameOk]; intro a b c
          rcases h with h | h | h
          · simp_all
          · simp_all
          · simp_all
        have HNo := HF hno
        clear hno HF HT hcells hlen
        go_wp2
        all_goals first | (go_ret; exact ⟨ret_bool HNo.out.symm, HB.out⟩) | (exfalso; simp_all; done)
      · obtain ⟨h0, h1, h2⟩ : q.toList.isEmpty = false ∧ (q.toList == [46]) = false ∧ (q.toList == [46, 46]) = false := by
          simpa [not_or] using h
        have HOk : Hid (nameOk q.data.toList = q.data.toList.all fun c => inNameB c.toNat) := by rw [HL.out]; exact nameOk_mk h0 h1 h2
        clear h hcells hlen
        go_wp2_with fail
        go_loop [29] (fun i => ∃ j : Nat, j ≤ q.size ∧ i = .int .i64 j ∧ Hid ((q.data.toList.take j).all (fun c => inNameB c.toNat) = true)) (fun i => q.size - (intOf i).toNat)
        case atStart => exact ⟨0, Nat.zero_le _, rfl, by simp [Hid]⟩
        case round =>
          obtain ⟨j, hj, rfl, HC⟩ := hrel
          by_cases hjl : j < q.size
          · have HS := hid (take_snoc q j hjl)
            have hin := inName_split (q[j].toNat : Int)
            have HBad : inNameB (q[j].toNat : Int) = false → Hid (ps.all nameOk = false) := fun h => HF (by rw [HOk.out]; exact all_false (byte_mem q j hjl) h)
            have HGood : inNameB (q[j].toNat : Int) = true → Hid ((q.data.toList.take (j + 1)).all (fun c => inNameB c.toNat) = true) := fun h => by
              show _ = _; rw [HS.out, List.all_append, HC.out]; simpa using h
            cases hl : letterB (q[j].toNat : Int) with
            | true =>
              rw [hl, Bool.true_or, Bool.true_or] at hin
              have HG := HGood hin
              clear HGood HBad HF hin
              go_wp2_with (first | (go_at_call 24; refine (letter_any _ _).mono ?_; rintro e w' ⟨rfl, rfl⟩; rw [hl]) | (go_at_call 25; refine (digit_any _ _).mono ?_; rintro e w' ⟨rfl, rfl⟩))
              go_round
              case rel => exact ⟨j + 1, by omega, by go_num, HG.out⟩
              case measure => simp [intOf]; omega
            | false =>
              cases hdg : digitB (q[j].toNat : Int) with
              | true =>
                rw [hl, hdg, Bool.false_or, Bool.true_or] at hin
                have HG := HGood hin
                clear HGood HBad HF hin
                go_wp2_with (first | (go_at_call 24; refine (letter_any _ _).mono ?_; rintro e w' ⟨rfl, rfl⟩; rw [hl]) | (go_at_call 25; refine (digit_any _ _).mono ?_; rintro e w' ⟨rfl, rfl⟩; rw [hdg]))
                go_round
                case rel => exact ⟨j + 1, by omega, by go_num, HG.out⟩
                case measure => simp [intOf]; omega
              | false =>
                rw [hl, hdg, Bool.false_or, Bool.false_or] at hin
                cases h46 : ((q[j].toNat : Int) == 46) with
                | true =>
                  rw [h46] at hin
                  have HG := HGood hin
                  have h46' : ((q[j].toNat : Int) != 46) = false := by simp [bne, h46]
                  clear HGood HBad HF hin
                  go_wp2_with (first | (go_at_call 24; refine (letter_any _ _).mono ?_; rintro e w' ⟨rfl, rfl⟩; rw [hl]) | (go_at_call 25; refine (digit_any _ _).mono ?_; rintro e w' ⟨rfl, rfl⟩; rw [hdg]))
                  go_round
                  case rel => exact ⟨j + 1, by omega, by go_num, HG.out⟩
                  case measure => simp [intOf]; omega
                | false =>
                  rw [h46] at hin
                  have HNo := HBad hin
                  have h46' : ((q[j].toNat : Int) != 46) = true := by simp [bne, h46]
                  clear HGood HBad HF hin
                  go_wp2_with (first | (go_at_call 24; refine (letter_any _ _).mono ?_; rintro e w' ⟨rfl, rfl⟩; rw [hl]) | (go_at_call 25; refine (digit_any _ _).mono ?_; rintro e w' ⟨rfl, rfl⟩; rw [hdg]))
                  go_ret
                  exact ⟨ret_bool HNo.out.symm, HB.out⟩
          · have HG : Hid ((ps.take (k + 1)).all nameOk = true) := by
              have := HC.out
              rw [List.take_of_length_le (by simp; omega), ← HOk.out] at this
              show _ = _; rw [HT.out, HA.out, this]; rfl
            clear HF HT
            go_wp2
            go_round
            case rel => exact ⟨k + 1, by omega, by go_num, HG.out⟩
            case measure => simp [intOf]; omega
    · have HE : Hid (ps.all nameOk = true) := by have := HA.out; rwa [List.take_of_length_le (by omega)] at this
      clear hcells hlen
      go_wp2
      go_ret
      exact ⟨ret_bool HE.out.symm, HB.out⟩

set_option maxHeartbeats 400000 in
theorem rclean_long (s : ByteArray) (w : World) (hs : 40 < s.size) (hz : s.size ≤ 9223372036854775807) :
    Calls Tryd.prog 8 #[.string s] w fun e w' => e = .returned (.bool false) ∧ w' = w := by
  go_enter Tryd.func8, Tryd.ntmps8
  go_wp2
  go_ret
  exact ⟨rfl, rfl⟩

theorem rclean_any (s : ByteArray) (w : World) (hz : s.size ≤ maxLen) :
    Calls Tryd.prog 8 #[.string s] w fun e w' => e = .returned (.bool (cleanB s)) ∧ Below w.heap.size w w' := by
  by_cases h : s.size ≤ 40
  · refine (rclean_short s w h).mono ?_
    rintro e w' ⟨rfl, hb⟩
    exact ⟨by rw [cleanB_pcs]; simp [h], hb⟩
  · refine (rclean_long s w (by omega) hz).mono ?_
    rintro e w' ⟨rfl, rfl⟩
    exact ⟨by simp [cleanB, h], Below.refl _ _⟩

end Go.Proofs.YthklodlhbafehaaDoor
