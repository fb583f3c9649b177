/- Walks of the document's own Signs and Sign. -/
import Derived.Test.YtkphogfmkempnacDoorRxWord
import Derived.Test.YtkphogfmkempnacDoorLxShapes
namespace Go.Proofs.YtkphogfmkempnacDoor
open Go.RowKit Go.Shelf

set_option maxRecDepth 100000 in
theorem RSigns_any (w : World) :
    Calls Tryd.prog 56 #[] w fun e w' => e = .returned (.slice (some ⟨w.heap.size, 0, none⟩) 48 48) ∧ w' = w.alloc (.cells signCells 9) := by
  go_enter Tryd.func56, Tryd.ntmps56
  go_wp2
  go_ret
  exact ⟨by kernel_rfl, by kernel_rfl⟩
theorem signs_at (w : World) : SAt (w.alloc (.cells signCells 9)) w.heap.size signsL := by
  refine ⟨by simp, fun j x hx => ?_⟩
  have h := heap_alloc_new w (.cells signCells 9)
  rw [Go.Joins.cell_of_block h]
  unfold signCells
  simp [hx]

set_option maxRecDepth 100000 in
set_option maxHeartbeats 2000000 in
theorem RSign_any (s : ByteArray) (w : World) (hs : s.size ≤ maxLen) :
    Calls Tryd.prog 39 #[.string s] w fun e w' => e = .returned (.string (s.extract 0 (signSz s.data.toList))) ∧ Below w.heap.size w w' := by
  unfold maxLen at hs
  go_enter Tryd.func39, Tryd.ntmps39
  go_wp2_with fail
  go_loopw [3, 4] (fun o x wr => ∃ n : Nat, n ≤ 3 ∧ n ≤ s.size ∧ x = .int .i64 ((n : Int) + 1) ∧ o = .string (s.extract 0 (sgnUp s.data.toList n)) ∧ Hid (Below w.heap.size w wr)) (fun _ x _ => 4 - (intOf x).toNat)
  case atStart => exact ⟨0, by omega, by omega, rfl, by rw [sgnUp, extract_zero], Below.refl _ _⟩
  case round =>
    obtain ⟨n, hn3, hns, rfl, rfl, HB⟩ := hrel
    by_cases hlt : n + 1 ≤ 3 ∧ n + 1 ≤ s.size
    · obtain ⟨h3, hsz⟩ := hlt
      have HSg := hid (RSigns_any wr)
      go_wp2_with fail
      refine HSg.out.mono ?_
      rintro e w1 ⟨rfl, hw1⟩
      have HS := hid (signs_at wr)
      have HB1 := hid (HB.out.alloc HB.out.size (.cells signCells 9))
      rw [← hw1] at HS HB1
      clear hw1 HSg HB
      go_wp2_with fail
      go_loop [3, 19] (fun o x => ∃ j : Nat, j ≤ 48 ∧ x = .int .i64 j ∧ o = .string (s.extract 0 (if s.data.toList.take (n + 1) ∈ signsL.take j then n + 1 else sgnUp s.data.toList n))) (fun _ x => 48 - (intOf x).toNat)
      case atStart => exact ⟨0, by omega, rfl, by simp⟩
      case round =>
        obtain ⟨j, hj, rfl, rfl⟩ := hrel
        by_cases hlt : j < 48
        · have hsj : signsL[j]? = some (signsL[j]'hlt) := List.getElem?_eq_getElem hlt
          have hc := HS.out.2 j _ hsj
          have hbw := HS.out.1
          have HM : Hid (s.data.toList.take (n + 1) ∈ signsL.take (j + 1) ↔ (s.data.toList.take (n + 1) ∈ signsL.take j ∨ s.data.toList.take (n + 1) = signsL[j]'hlt)) := by
            show _ ↔ _
            rw [List.take_add_one, hsj]; simp
          generalize signsL[j]'hlt = y at hc HM
          have HX : Hid ((s.extract 0 (n + 1)).toList = s.data.toList.take (n + 1)) := by show _ = _; rw [toList_data, extract_data, List.drop_zero]
          have HX2 : Hid (y = s.data.toList.take (n + 1) → (⟨y.toArray⟩ : ByteArray) = s.extract 0 (n + 1)) := fun e => by
            apply ByteArray.ext; apply Array.ext'; rw [← toList_data (s.extract 0 (n + 1)), HX.out]; simpa using e
          cases hq : (y == (s.extract 0 (n + 1)).toList) with
          | true =>
            have e : y = s.data.toList.take (n + 1) := by rw [← HX.out]; simpa using hq
            have HE := hid (HM.out.2 (.inr e.symm))
            have HV := hid (HX2.out e)
            clear e HM HX HX2
            go_wp2_with fail
            exact ⟨⟨j + 1, by omega, by go_num, by rw [if_pos HE.out, HV.out]⟩, by simp [intOf]; omega⟩
          | false =>
            have e : ¬ s.data.toList.take (n + 1) = y := fun h => by rw [HX.out, h] at hq; simp at hq
            have HE : Hid (s.data.toList.take (n + 1) ∈ signsL.take (j + 1) ↔ s.data.toList.take (n + 1) ∈ signsL.take j) := by show _ ↔ _; rw [HM.out]; simp [e]
            clear e HM HX HX2
            go_wp2_with fail
            exact ⟨⟨j + 1, by omega, by go_num, by simp only [HE.out]⟩, by simp [intOf]; omega⟩
        · obtain rfl : j = 48 := by omega
          have HE : Hid ((if s.data.toList.take (n + 1) ∈ signsL.take 48 then n + 1 else sgnUp s.data.toList n) = sgnUp s.data.toList (n + 1)) := by
            show _ = _
            rw [sgnUp, show signsL.take 48 = signsL from rfl]
            have : n + 1 ≤ s.data.toList.length := by rw [size_data]; exact hsz
            simp only [this, true_and]
          clear hlt
          go_wp2_with fail
          exact ⟨⟨n + 1, by omega, by omega, by go_num, by rw [HE.out], HB1.out⟩, by simp [intOf]; omega⟩
    · have HE : Hid (sgnUp s.data.toList n = signSz s.data.toList) := by
        show _ = _
        rw [sign_up]
        by_cases h : n = 3
        · rw [h]
        · have hss : s.size = n := by omega
          have key : ∀ m, n ≤ m → sgnUp s.data.toList m = sgnUp s.data.toList n := fun m => by
            induction m with
            | zero => intro h; rw [show n = 0 by omega]
            | succ m ih =>
              intro h
              by_cases h2 : n = m + 1
              · rw [h2]
              · rw [sgnUp, if_neg (by rw [size_data]; omega)]; exact ih (by omega)
          rw [key 3 (by omega)]
      by_cases h3 : n + 1 ≤ 3
      · have hsz : ¬ (n + 1 ≤ s.size) := by omega
        go_wp2
        go_ret
        exact ⟨ret_str (by rw [HE.out]), HB.out⟩
      · go_wp2
        go_ret
        exact ⟨ret_str (by rw [HE.out]), HB.out⟩
end Go.Proofs.YtkphogfmkempnacDoor
