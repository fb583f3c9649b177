/- Walk of the document's own Skip. -/
import Derived.Test.YtkphogfmkempnacDoorRxWord
namespace Go.Proofs.YtkphogfmkempnacDoor
open Go.RowKit Go.Shelf

theorem ret_skip {k k' : Int} {a b : Bool} (hk : k' = k) (h : b = a) : Ending.returned (.tuple #[.int .i64 k, .bool a]) = .returned (.tuple #[.int .i64 k', .bool b]) := by rw [hk, h]
theorem two_bytes (s : ByteArray) (k : Nat) (h : k + 1 < s.size) : (s.extract k (k + 2)).toList = [s[k], s[k + 1]] := by
  rw [toList_data, extract_data, List.drop_take, show k + 2 - k = 2 by omega]
  rw [List.drop_eq_getElem_cons (by rw [size_data]; omega), List.drop_eq_getElem_cons (by rw [size_data]; omega)]
  rfl

set_option maxRecDepth 100000 in
set_option maxHeartbeats 400000 in
theorem RSkip_any (s : ByteArray) (w : World) (hs : s.size ≤ 1048576) :
    Calls Tryd.prog 21 #[.string s] w fun e w' => e = .returned (.tuple #[.int .i64 (rskipN s.data.toList), .bool (rskipB s.data.toList)]) ∧ w' = w := by
  go_enter Tryd.func21, Tryd.ntmps21
  go_wp2_with fail
  go_loop [4, 5] (fun x f => ∃ (k : Nat) (b : Bool), x = .int .i64 k ∧ f = .bool b ∧ Hid (SkAt s.data.toList k b)) (fun x _ => s.size - (intOf x).toNat)
  case atStart => exact ⟨0, false, rfl, rfl, SkAt.start _⟩
  case round =>
    obtain ⟨k, b, rfl, rfl, HS⟩ := hrel
    have hle : k ≤ s.size := by have := HS.out.1; rw [size_data] at this; exact this
    by_cases hlt : k < s.size
    · have HBl := hid (blank_at s.data.toList k (by rw [size_data]; exact hlt))
      rw [← byte_at s k hlt, size_data] at HBl
      simp only [u8i] at HBl
      have HF := hid (fun c => (byte_int s k hlt c))
      by_cases hbl : (s[k].toNat : Int) = 32 ∨ (s[k].toNat : Int) = 9 ∨ (s[k].toNat : Int) = 13
      · have HG := hid (HS.out.go 1 (by rw [HBl.out, if_pos (by rcases hbl with h | h | h; exact .inl h; exact .inr (.inl h); exact .inr (.inr (.inr h)))]; rfl) (by omega))
        have HFe : Hid ((b || byteAt s.data.toList k == 10) = b) := by
          show _ = _
          have : (byteAt s.data.toList k == 10) = false := by rw [beq_eq_false_iff_ne, Ne, byte_int s k hlt 10]; intro h; rw [h] at hbl; revert hbl; decide
          rw [this, Bool.or_false]
        rw [HFe.out] at HG
        clear HFe HF HBl HS
        rcases hbl with h | h | h
        · go_wp2_with fail
          all_goals exact ⟨⟨k + 1, b, by go_num, rfl, HG.out⟩, by simp [intOf]; omega⟩
        · go_wp2_with fail
          all_goals exact ⟨⟨k + 1, b, by go_num, rfl, HG.out⟩, by simp [intOf]; omega⟩
        · go_wp2_with fail
          all_goals exact ⟨⟨k + 1, b, by go_num, rfl, HG.out⟩, by simp [intOf]; omega⟩
      · by_cases h10 : (s[k].toNat : Int) = 10
        · have HG := hid (HS.out.go 1 (by rw [HBl.out, if_pos (.inr (.inr (.inl h10)))]; rfl) (by omega))
          have HFe : Hid ((b || byteAt s.data.toList k == 10) = true) := by
            show _ = _
            rw [(byte_int s k hlt 10).2 h10]; simp
          rw [HFe.out] at HG
          clear HFe HF HBl HS hbl
          go_wp2_with fail
          all_goals exact ⟨⟨k + 1, true, by go_num, rfl, HG.out⟩, by simp [intOf]; omega⟩
        · have n1 : ((s[k].toNat : Int) == 32) = false := by simp; omega
          have n2 : ((s[k].toNat : Int) == 9) = false := by simp; omega
          have n3 : ((s[k].toNat : Int) == 13) = false := by simp; omega
          have n4 : ((s[k].toNat : Int) == 10) = false := by simp; omega
          have HB2 := hid (HBl.out.trans (if_neg (by intro h; rcases h with h | h | h | h; exact hbl (.inl h); exact hbl (.inr (.inl h)); exact h10 h; exact hbl (.inr (.inr h)))))
          have HFe : Hid ((b || byteAt s.data.toList k == 10) = b) := by
            show _ = _
            have : (byteAt s.data.toList k == 10) = false := by rw [beq_eq_false_iff_ne, Ne, byte_int s k hlt 10]; exact h10
            rw [this, Bool.or_false]
          clear HBl HF hbl h10
          by_cases hk1 : k + 1 < s.size
          · have ht := two_bytes s k hk1
            rw [← byte_at s (k + 1) hk1] at HB2
            by_cases h47 : (s[k].toNat : Int) = 47
            · by_cases hss : (s[k + 1].toNat : Int) = 47
              · have hT : ((s.extract k (k + 2)).toList == [47, 47]) = true := by
                  rw [ht]; simp only [beq_iff_eq, List.cons.injEq, and_true, u8i]; exact ⟨h47, hss⟩
                have HB3 := hid (HB2.out.trans (if_pos ⟨h47, hk1, hss⟩))
                have HS10 : Hid ((s[k].toNat : Int) ≠ 10) := by show _ ≠ _; rw [h47]; decide
                clear HB2 ht hss h47
                go_wp2_with fail
                go_loop [4] (fun x => ∃ j : Nat, k ≤ j ∧ j ≤ s.size ∧ x = .int .i64 j ∧ Hid (∀ i, k ≤ i → i < j → byteAt s.data.toList i ≠ 10)) (fun x => s.size - (intOf x).toNat)
                case atStart => exact ⟨k, Nat.le_refl _, hle, rfl, fun i h1 h2 => by omega⟩
                case round =>
                  obtain ⟨j, hkj, hj, rfl, HR⟩ := hrel
                  by_cases hjl : j < s.size ∧ ¬ (s[j]!.toNat : Int) = 10
                  · obtain ⟨hjl, hj10⟩ := hjl
                    have hj10 : ¬ (s[j].toNat : Int) = 10 := by rw [getElem!_pos s j hjl] at hj10; exact hj10
                    have HR2 : Hid (∀ i, k ≤ i → i < j + 1 → byteAt s.data.toList i ≠ 10) := fun i h1 h2 => by
                      by_cases e : i = j
                      · subst e; intro h; exact hj10 ((byte_int s i hjl 10).1 h)
                      · exact HR.out i h1 (by omega)
                    have m1 : ((s[j].toNat : Int) != 10) = true := by simpa using hj10
                    clear HR hj10 hT n1 n2 n3 n4 hk1
                    go_wp2_with fail
                    exact ⟨⟨j + 1, by omega, by omega, by go_num, HR2.out⟩, by simp [intOf]; omega⟩
                  · have hend : ∀ h : j < s.size, (s[j].toNat : Int) = 10 := fun h => by
                      rcases Classical.em ((s[j].toNat : Int) = 10) with e | e
                      · exact e
                      · exact absurd ⟨h, by rw [getElem!_pos s j h]; exact e⟩ hjl
                    have hkj1 : k + 1 ≤ j := by
                      rcases Nat.eq_or_lt_of_le hkj with e | e
                      · subst e; exact absurd (hend hlt) HS10.out
                      · exact e
                    have hsp : spanN (fun i => byteAt s.data.toList (k + i) != 10) (s.size - k) = j - k := by
                      refine spanN_eq _ _ _ (by omega) (by omega) (fun i h1 h2 => ?_) (fun h => ?_)
                      · have := HR.out (k + i) (by omega) (by omega); simpa using this
                      · have := (byte_int s j (by omega) 10).2 (hend (by omega))
                        rw [show k + (j - k) = j by omega, this]; rfl
                    have HG := hid (HS.out.go (j - k) (HB3.out.trans (by rw [hsp])) (by omega))
                    rw [HFe.out, show k + (j - k) = j by omega] at HG
                    clear HR hsp HFe HB3 HS hT n1 n2 n3 n4 hk1 HS10 hjl
                    by_cases hjs : j < s.size
                    · have m1 : ((s[j].toNat : Int) != 10) = false := by have := hend hjs; simp [this]
                      clear hend
                      go_wp2_with fail
                      exact ⟨⟨j, b, rfl, rfl, HG.out⟩, by simp [intOf]; omega⟩
                    · clear hend
                      go_wp2_with fail
                      exact ⟨⟨j, b, rfl, rfl, HG.out⟩, by simp [intOf]; omega⟩
              · by_cases hst : (s[k + 1].toNat : Int) = 42
                · have hT : ((s.extract k (k + 2)).toList == [47, 47]) = false := by
                    rw [ht, beq_eq_false_iff_ne]; simp only [Ne, List.cons.injEq, and_true, u8i]; exact fun h => hss h.2
                  have hT2 : ((s.extract k (k + 2)).toList == [47, 42]) = true := by
                    rw [ht]; simp only [beq_iff_eq, List.cons.injEq, and_true, u8i]; exact ⟨h47, hst⟩
                  have HB3 := hid (HB2.out.trans ((if_neg (fun h => hss h.2.2)).trans (if_pos ⟨h47, hk1, hst⟩)))
                  clear HB2 ht hss h47 hst
                  go_wp2_with fail
                  go_loop [8] (fun x => ∃ j : Nat, k + 2 ≤ j ∧ j ≤ s.size ∧ x = .int .i64 j ∧ Hid (∀ i, k + 2 ≤ i → i < j → ¬(byteAt s.data.toList i = 42 ∧ byteAt s.data.toList (i + 1) = 47))) (fun x => s.size - (intOf x).toNat)
                  case atStart => exact ⟨k + 2, Nat.le_refl _, by omega, by go_num, fun i h1 h2 => by omega⟩
                  case round =>
                    obtain ⟨j, hkj, hj, rfl, HR⟩ := hrel
                    by_cases hj1 : j + 1 < s.size
                    · have ht := two_bytes s j hj1
                      have hb : ((s.extract j (j + 2)).toList == [42, 47]) = decide (byteAt s.data.toList j = 42 ∧ byteAt s.data.toList (j + 1) = 47) := by
                        rw [ht, ← byte_at s j (by omega), ← byte_at s (j + 1) hj1]
                        apply bool_ext
                        simp
                      by_cases hx : byteAt s.data.toList j = 42 ∧ byteAt s.data.toList (j + 1) = 47
                      · have hb2 : ((s.extract j (j + 2)).toList == [42, 47]) = true := by rw [hb, decide_eq_true hx]
                        have hnote : noteEnd (s.data.toList.drop (k + 2)) 0 = some (j - (k + 2)) := by
                          have q1 : ∀ i, i < j - (k + 2) → ¬(byteAt (s.data.toList.drop (k + 2)) i = 42 ∧ byteAt (s.data.toList.drop (k + 2)) (i + 1) = 47) := fun i hi => by
                            rw [byteAt_drop, byteAt_drop]
                            have := HR.out (k + 2 + i) (by omega) (by omega)
                            rw [show k + 2 + (i + 1) = k + 2 + i + 1 by omega]; exact this
                          have q2 : byteAt (s.data.toList.drop (k + 2)) (j - (k + 2)) = 42 := by rw [byteAt_drop, show k + 2 + (j - (k + 2)) = j by omega]; exact hx.1
                          have q3 : byteAt (s.data.toList.drop (k + 2)) (j - (k + 2) + 1) = 47 := by rw [byteAt_drop, show k + 2 + (j - (k + 2) + 1) = j + 1 by omega]; exact hx.2
                          have q4 : j - (k + 2) + 1 < (s.data.toList.drop (k + 2)).length := by rw [List.length_drop, size_data]; omega
                          rw [noteEnd_some (j - (k + 2)) (s.data.toList.drop (k + 2)) 0 q1 q2 q3 q4]
                          simp
                        have HG := hid (HS.out.go (j + 2 - k) (HB3.out.trans (by rw [hnote]; show ((j - (k + 2) : Nat) : Int) + 4 = _; omega)) (by omega))
                        rw [HFe.out, show k + (j + 2 - k) = j + 2 by omega] at HG
                        clear HR hnote HFe HB3 HS hT hT2 n1 n2 n3 n4 hk1 ht hb hx
                        go_wp2_with fail
                        exact ⟨⟨j + 2, b, by go_num, rfl, HG.out⟩, by simp [intOf]; omega⟩
                      · have hb2 : ((s.extract j (j + 2)).toList == [42, 47]) = false := by rw [hb, decide_eq_false hx]
                        have HR2 : Hid (∀ i, k + 2 ≤ i → i < j + 1 → ¬(byteAt s.data.toList i = 42 ∧ byteAt s.data.toList (i + 1) = 47)) := fun i h1 h2 => by
                          by_cases e : i = j
                          · subst e; exact hx
                          · exact HR.out i h1 (by omega)
                        clear HR hT hT2 n1 n2 n3 n4 hk1 ht hb hx
                        go_wp2_with fail
                        exact ⟨⟨j + 1, by omega, by omega, by go_num, HR2.out⟩, by simp [intOf]; omega⟩
                    · have hnote : noteEnd (s.data.toList.drop (k + 2)) 0 = none := noteEnd_none _ 0 (fun i hi => by
                        rw [List.length_drop, size_data] at hi
                        rw [byteAt_drop, byteAt_drop]
                        have := HR.out (k + 2 + i) (by omega) (by omega)
                        rw [show k + 2 + (i + 1) = k + 2 + i + 1 by omega]; exact this)
                      have HE := hid (HS.out.lacks (by rw [HB3.out, hnote]; show (-1 : Int) < 0; decide))
                      clear HR hnote HFe HB3 HS hT hT2 n1 n2 n3 n4 hk1
                      go_wp2_with fail
                      go_ret2
                      exact ⟨ret_skip HE.out.1 HE.out.2, rfl⟩
                · have hT : ((s.extract k (k + 2)).toList == [47, 47]) = false := by
                    rw [ht, beq_eq_false_iff_ne]; simp only [Ne, List.cons.injEq, and_true, u8i]; exact fun h => hss h.2
                  have hT2 : ((s.extract k (k + 2)).toList == [47, 42]) = false := by
                    rw [ht, beq_eq_false_iff_ne]; simp only [Ne, List.cons.injEq, and_true, u8i]; exact fun h => hst h.2
                  have HE := hid (HS.out.stop (HB2.out.trans (by rw [if_neg (fun h => hss h.2.2), if_neg (fun h => hst h.2.2)])))
                  clear HB2 HFe HS ht
                  go_wp2_with fail
                  go_ret2
                  exact ⟨ret_skip HE.out.1 HE.out.2, rfl⟩
            · have hT : ((s.extract k (k + 2)).toList == [47, 47]) = false := by
                rw [ht, beq_eq_false_iff_ne]; simp only [Ne, List.cons.injEq, and_true, u8i]; exact fun h => h47 h.1
              have hT2 : ((s.extract k (k + 2)).toList == [47, 42]) = false := by
                rw [ht, beq_eq_false_iff_ne]; simp only [Ne, List.cons.injEq, and_true, u8i]; exact fun h => h47 h.1
              have HE := hid (HS.out.stop (HB2.out.trans (by rw [if_neg (fun h => h47 h.1), if_neg (fun h => h47 h.1)])))
              clear HB2 HFe HS ht
              go_wp2_with fail
              go_ret2
              exact ⟨ret_skip HE.out.1 HE.out.2, rfl⟩
          · have HE := hid (HS.out.stop (HB2.out.trans (by rw [if_neg (fun h => hk1 h.2.1), if_neg (fun h => hk1 h.2.1)])))
            clear HB2 HFe HS
            go_wp2_with fail
            go_ret2
            exact ⟨ret_skip HE.out.1 HE.out.2, rfl⟩
    · have HE := hid (HS.out.stop (by rw [List.drop_of_length_le (by rw [size_data]; omega)]; rfl))
      clear HS
      go_wp2_with fail
      go_ret2
      exact ⟨ret_skip HE.out.1 HE.out.2, rfl⟩
end Go.Proofs.YtkphogfmkempnacDoor
