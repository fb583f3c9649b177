/- Walk of CondParens. -/
import Derived.Test.YtkphogfmkempnacDoorCmH
namespace Go.Proofs.YtkphogfmkempnacDoor
open Go.RowKit Go.Shelf

theorem parens_evS (l : List UInt8) (hc : ∀ c ∈ l, c ≠ 47 ∧ c ≠ 10 ∧ c ≠ 92) (hl : l.length ≤ 500) (h : (evS l).2.1 = 0) :
    (evS ([40] ++ (l ++ [41])) = ((evS l).1, (0, -1, 0)) ∨ (evS ([40] ++ (l ++ [41]))).2.1 = 10) ∧
    (evS ([33, 33, 40] ++ (l ++ [41])) = (truthI (truthI ((evS l).1 == 0) == 0), (0, -1, 0)) ∨ (evS ([33, 33, 40] ++ (l ++ [41]))).2.1 = 10) := by
  have hT : (toksF 0 l).2.1 = 0 := by
    by_cases h0 : (toksF 0 l).2.1 = 0
    · exact h0
    · unfold evS at h
      rw [if_neg h0] at h
      exact h
  have hv : evS l = evalL numL (toksF 0 l).1 := by unfold evS; rw [if_pos hT]
  rw [hv] at h ⊢
  obtain ⟨⟨p1, p2⟩, ⟨q1, q2⟩⟩ := parens_plain numL l hc hl hT h
  have e1 : evS ([40] ++ (l ++ [41])) = evalL numL (toksF 0 ([40] ++ (l ++ [41]))).1 := by unfold evS; rw [if_pos (by rw [p1])]
  have e2 : evS ([33, 33, 40] ++ (l ++ [41])) = evalL numL (toksF 0 ([33, 33, 40] ++ (l ++ [41]))).1 := by unfold evS; rw [if_pos (by rw [q1])]
  rw [e1, e2]
  exact ⟨p2, q2⟩
theorem between_list (pre s : ByteArray) : ((pre ++ s) ++ (⟨#[41]⟩ : ByteArray)).data.toList = pre.data.toList ++ (s.data.toList ++ [41]) := by
  rw [ByteArray.data_append, ByteArray.data_append, Array.toList_append, Array.toList_append, List.append_assoc]

set_option maxRecDepth 100000 in
set_option maxHeartbeats 2000000 in
theorem Parens_walk (HR : RTok) (s : ByteArray) (w : World) (hE : Ev w) :
    Calls Tryd.prog 5 #[.string s] w fun e w' => e = .returned (.bool true) ∧ Below w.heap.size w w' := by
  have HA := hid (fun t W (h : Below w.heap.size w W) => ask_any HR t W (hE.below h))
  have HV := hid (cdAlive_any HR w hE)
  clear hE HR
  go_enter Tryd.func5, Tryd.ntmps5
  go_wp2_with fail
  refine HV.out.mono ?_
  rintro e w1 ⟨rfl, hb1⟩
  have HB1 := hid hb1
  clear hb1 HV
  go_wp2_with fail
  refine (HA.out s _ HB1.out).mono ?_
  rintro e w2 ⟨rfl, hb2⟩
  have HB2 := hid (HB1.out.trans (hb2.mono HB1.out.size))
  clear hb2
  by_cases hf : (evS s.data.toList).2.1 = 0
  · by_cases hs : s.size ≤ 500
    · have HP : Hid (∀ _ : ∀ c ∈ s.data.toList, c ≠ 47 ∧ c ≠ 10 ∧ c ≠ 92, _) := fun hc => parens_evS s.data.toList hc (by rw [size_data]; exact hs) hf
      generalize hR : evS s.data.toList = R at hf HP ⊢
      obtain ⟨n, f0, f1, f2⟩ := R
      dsimp only at hf HP ⊢
      subst hf
      clear hR
      go_wp2_with fail
      generalize hw3 : w2.alloc (.cells #[.int .i64 0, .int .i64 f1, .int .i64 f2] 28) = w3
      have HB3 : Hid (Below w.heap.size w w3) := by
        show Below _ _ _
        rw [← hw3]
        exact HB2.out.trans (((Below.refl _ w2).alloc (Nat.le_refl _) _).mono HB2.out.size)
      clear hw3
      go_loop [27] (fun x => ∃ k : Nat, k ≤ s.size ∧ x = .int .i64 k ∧ Hid (∀ c ∈ s.data.toList.take k, c ≠ 47 ∧ c ≠ 10 ∧ c ≠ 92)) (fun x => s.size - (intOf x).toNat)
      case atStart => exact ⟨0, Nat.zero_le _, rfl, fun c hc => by simp at hc⟩
      case round =>
        obtain ⟨k, hk, rfl, HC⟩ := hrel
        by_cases hlt : k < s.size
        · by_cases h47 : (s[k].toNat : Int) = 47
          · go_wp2
            go_ret
            exact ⟨rfl, HB3.out⟩
          by_cases h92 : (s[k].toNat : Int) = 92
          · go_wp2
            go_ret
            exact ⟨rfl, HB3.out⟩
          by_cases h10 : (s[k].toNat : Int) = 10
          · go_wp2
            go_ret
            exact ⟨rfl, HB3.out⟩
          have HC2 : Hid (∀ c ∈ s.data.toList.take (k + 1), c ≠ 47 ∧ c ≠ 10 ∧ c ≠ 92) := fun c hc => by
            have hsn : s.data.toList.take (k + 1) = s.data.toList.take k ++ [s[k]] := by
              rw [List.take_add_one, List.getElem?_eq_getElem (by rw [size_data]; exact hlt)]; rfl
            rw [hsn] at hc
            rcases List.mem_append.1 hc with h | h
            · exact HC.out c h
            · have : c = s[k] := by simpa using h
              subst this
              simp only [Ne, u8i]
              exact ⟨h47, h10, h92⟩
          have n1 : ((s[k].toNat : Int) == 47) = false := by simpa using h47
          have n2 : ((s[k].toNat : Int) == 92) = false := by simpa using h92
          have n3 : ((s[k].toNat : Int) == 10) = false := by simpa using h10
          clear HC h47 h92 h10
          go_wp2_with fail
          exact ⟨⟨k + 1, by omega, by go_num, HC2.out⟩, by simp [intOf]; omega⟩
        · obtain rfl : k = s.size := by omega
          have hfull : s.data.toList.take s.size = s.data.toList := by rw [← size_data, List.take_length]
          rw [hfull] at HC
          obtain ⟨hp, hq⟩ := HP.out HC.out
          have hc1 : ∀ W : World, (Op.stringOp .add ⟨#[40]⟩ s).run Tryd.prog W = .ok (.string (⟨#[40]⟩ ++ s)) W := fun W => by
            rw [run_string_add_sum W _ _ (by show 1 + _ ≤ _; omega)]
          have hc2 : ∀ W : World, (Op.stringOp .add ((⟨#[40]⟩ : ByteArray) ++ s) ⟨#[41]⟩).run Tryd.prog W = .ok (.string (((⟨#[40]⟩ : ByteArray) ++ s) ++ ⟨#[41]⟩)) W := fun W => by
            rw [run_string_add_sum W _ _ (by rw [ByteArray.size_append]; show 1 + _ + 1 ≤ _; omega)]
          have hc3 : ∀ W : World, (Op.stringOp .add ⟨#[33, 33, 40]⟩ s).run Tryd.prog W = .ok (.string (⟨#[33, 33, 40]⟩ ++ s)) W := fun W => by
            rw [run_string_add_sum W _ _ (by show 3 + _ ≤ _; omega)]
          have hc4 : ∀ W : World, (Op.stringOp .add ((⟨#[33, 33, 40]⟩ : ByteArray) ++ s) ⟨#[41]⟩).run Tryd.prog W = .ok (.string (((⟨#[33, 33, 40]⟩ : ByteArray) ++ s) ++ ⟨#[41]⟩)) W := fun W => by
            rw [run_string_add_sum W _ _ (by rw [ByteArray.size_append]; show 3 + _ + 1 ≤ _; omega)]
          have HP1 := hid (HA.out (((⟨#[40]⟩ : ByteArray) ++ s) ++ ⟨#[41]⟩))
          have HP2 := hid (HA.out (((⟨#[33, 33, 40]⟩ : ByteArray) ++ s) ++ ⟨#[41]⟩))
          rw [between_list] at HP1 HP2
          have HQ1 : Hid (evS ([40] ++ (s.data.toList ++ [41])) = (n, 0, -1, 0) ∨ (evS ([40] ++ (s.data.toList ++ [41]))).2.1 = 10) := hp
          have HQ2 : Hid (evS ([33, 33, 40] ++ (s.data.toList ++ [41])) = (truthI (truthI (n == 0) == 0), 0, -1, 0) ∨ (evS ([33, 33, 40] ++ (s.data.toList ++ [41]))).2.1 = 10) := hq
          rw [show (ByteArray.mk #[40]).data.toList = [40] from rfl] at HP1
          rw [show (ByteArray.mk #[33, 33, 40]).data.toList = [33, 33, 40] from rfl] at HP2
          clear hp hq HA HP HC hfull
          generalize evS ([40] ++ (s.data.toList ++ [41])) = P at HP1 HQ1
          generalize evS ([33, 33, 40] ++ (s.data.toList ++ [41])) = Q at HP2 HQ2
          obtain ⟨m, g0, g1, g2⟩ := P
          obtain ⟨q, k0, k1, k2⟩ := Q
          dsimp only at HP1 HP2 HQ1 HQ2
          generalize ((⟨#[40]⟩ : ByteArray) ++ s) ++ ⟨#[41]⟩ = T1 at hc2 HP1
          generalize ((⟨#[33, 33, 40]⟩ : ByteArray) ++ s) ++ ⟨#[41]⟩ = T2 at hc4 HP2
          generalize (⟨#[40]⟩ : ByteArray) ++ s = U1 at hc1 hc2
          generalize (⟨#[33, 33, 40]⟩ : ByteArray) ++ s = U2 at hc3 hc4
          go_wp2_with fail
          refine (HP1.out _ HB3.out).mono ?_
          rintro e w4 ⟨rfl, hb4⟩
          have hbn := (Below.refl _ w4).alloc (Nat.le_refl _) (.cells #[.int .i64 g0, .int .i64 g1, .int .i64 g2] 28)
          have HB4 := hid (HB3.out.trans ((hb4.trans (hbn.mono hb4.size)).mono HB3.out.size))
          have HF4 := hid (FBox.new w4 g0 g1 g2)
          clear hb4 hbn HP1
          go_wp2_with fail
          refine (HP2.out _ HB4.out).mono ?_
          rintro e w5 ⟨rfl, hb5⟩
          have hbn := (Below.refl _ w5).alloc (Nat.le_refl _) (.cells #[.int .i64 k0, .int .i64 k1, .int .i64 k2] 28)
          have HB5 := hid (HB4.out.trans ((hb5.trans (hbn.mono hb5.size)).mono HB4.out.size))
          obtain ⟨b0, _⟩ := ((HF4.out.below hb5).below hbn).facts
          obtain ⟨b1, _⟩ := (FBox.new w5 k0 k1 k2).facts
          clear hb5 hbn HP2 HF4
          generalize hw6 : w5.alloc (.cells #[.int .i64 k0, .int .i64 k1, .int .i64 k2] 28) = w6 at b0 b1 HB5
          by_cases h10 : g0 = 10
          · subst h10
            clear HQ1 HQ2
            go_wp2_with fail
            go_ret
            exact ⟨rfl, HB5.out⟩
          by_cases h11 : k0 = 10
          · subst h11
            have n1 : (g0 == 10) = false := by simpa using h10
            clear HQ1 HQ2
            go_wp2_with fail
            go_ret
            exact ⟨rfl, HB5.out⟩
          · rcases HQ1.out with h | h
            · rcases HQ2.out with h' | h'
              · clear HQ1 HQ2 h10 h11
                simp only [Prod.mk.injEq] at h h'
                obtain ⟨rfl, rfl, -, -⟩ := h
                obtain ⟨hq, rfl, -, -⟩ := h'
                by_cases hn : m = 0
                · subst hn
                  have hq' : q = 0 := by rw [hq]; rfl
                  subst hq'
                  clear hq
                  go_wp2_with fail
                  go_ret
                  exact ⟨rfl, HB5.out⟩
                · have hnb : (m == 0) = false := by simpa using hn
                  have hq' : q = 1 := by rw [hq, hnb]; rfl
                  subst hq'
                  have hnn : (m != 0) = true := by simpa using hn
                  clear hq
                  go_wp2_with fail
                  go_ret
                  exact ⟨ret_bool (by simp), HB5.out⟩
              · exact absurd h' h11
            · exact absurd h h10
    · generalize evS s.data.toList = R at hf ⊢
      obtain ⟨n, f0, f1, f2⟩ := R
      dsimp only at hf ⊢
      subst hf
      go_wp2
      go_ret
      exact ⟨rfl, HB2.out.trans (((Below.refl _ w2).alloc (Nat.le_refl _) _).mono HB2.out.size)⟩
  · generalize evS s.data.toList = R at hf ⊢
    obtain ⟨n, f0, f1, f2⟩ := R
    dsimp only at hf ⊢
    have hfb : (f0 == 0) = false := by simpa using hf
    go_wp2
    go_ret
    exact ⟨rfl, HB2.out.trans (((Below.refl _ w2).alloc (Nat.le_refl _) _).mono HB2.out.size)⟩
end Go.Proofs.YtkphogfmkempnacDoor
