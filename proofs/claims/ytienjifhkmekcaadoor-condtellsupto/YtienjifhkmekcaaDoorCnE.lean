/- Some texts in one. -/
import Derived.Test.YtienjifhkmekcaaDoorCnB
import Derived.Test.YtienjifhkmekcaaDoorCmD
import Derived.Test.YtienjifhkmekcaaDoorCnD
namespace Go.Proofs.YtienjifhkmekcaaDoor
open Go.RowKit Go.Shelf

theorem one_sign (x : UInt8) : (ByteArray.mk #[x]).toList = [x] := by rw [toList_data]
theorem ans_bad {R : Nat} {a : Option Addr} {c : Nat} {ts : List Tk} {f g d q : Int} {i j : Nat} {w : World} {e0 : Int} {p : Nat} {e : Ending} {w' : World} (h : AnsOk R a c ts f g d q j w (.inr (e0, p)) e w') (hij : i ≤ j) : AnsOk R a c ts f g d q i w (.inr (e0, p)) e w' := by
  obtain ⟨h1, v, k, h2, h3, h4, h5⟩ := h
  exact ⟨h1, v, k, h2, by omega, h4, h5⟩

set_option maxRecDepth 100000 in
set_option maxHeartbeats 2000000 in
theorem choice_stepR (R : Nat) (a : Option Addr) (c : Nat) (ts : List Tk) (f g : Int) (k : Nat) (hk : k ≤ ts.length) (hl : ts.length ≤ 3000) (hL : LevelRC R a c ts f g 0 k) (hCh : ∀ j, k < j → j ≤ ts.length → ChoiceRC R a c ts f g j) : ChoiceRC R a c ts f g k := by
  intro d q w hd hq h
  have HL := hid (hL d q w hd hq h)
  rw [show (((0 : Nat) : Int) + 1) = 1 from rfl] at HL
  have hf1 := RD_fine numL 0 d (q == 0) (⟨hk, .inl (by omega), by omega⟩ : Ask ts 1 1 k)
  rw [RD_choice numL hk d (q == 0)]
  have HIs := hid (fun (e f g d q : Int) (j : Nat) (x : UInt8) W hW => is_any R a c ts e f g d q j ⟨#[x]⟩ (show (1 : Nat) ≠ 0 by decide) W hW)
  rcases hr1 : RD numL ts 1 1 0 k d (q == 0) with ⟨n, k1⟩ | ⟨e1, p1⟩
  · rw [hr1] at HL hf1
    obtain ⟨_, f2, f3⟩ := hf1
    dsimp only
    by_cases hq63 : ((signAt ts k1).toList == [63]) = true
    · rw [if_pos hq63]
      have hk1 := sign_lt ts k1 63 hq63
      have h2a : Ask ts 0 0 (k1 + 1) := ⟨by omega, .inr (.inl rfl), by omega⟩
      have hf2 := RD_fine numL 0 d (q == 0 && !(n == 0)) h2a
      have HC1 := hid (hCh (k1 + 1) (by omega) (by omega))
      unfold AnsOk at HL
      dsimp only at HL
      rcases hr2 : RD numL ts 0 0 0 (k1 + 1) d (q == 0 && !(n == 0)) with ⟨yes, k2⟩ | ⟨e3, p3⟩
      · rw [hr2] at hf2
        obtain ⟨_, g2, g3⟩ := hf2
        dsimp only
        by_cases h58 : ((signAt ts k2).toList == [58]) = true
        · rw [if_pos h58]
          have hk2 := sign_lt ts k2 58 h58
          have HCC := hid (hCh (k2 + 1) (by omega) (by omega))
          rcases hr3 : RD numL ts 0 0 0 (k2 + 1) d (q == 0 && n == 0) with ⟨no, k3⟩ | ⟨e4', p4⟩
          · dsimp only
            obtain ⟨val, hval⟩ : ∃ val, (if (n == 0) = true then no else yes) = val := ⟨_, rfl⟩
            rw [hval]
            have HVAL := hid hval
            clear hval
            go_enter Tryd.func18, Tryd.ntmps18
            go_wp2_with fail
            refine HL.out.mono ?_
            rintro e2 w2 ⟨hk2, v, rfl, hvI, hvq, hc2⟩
            obtain ⟨b0, b1, _, _, _, b5⟩ := hc2.facts
            obtain ⟨_, _, _, _, z5⟩ := hc2.warm
            have HI := hid (HIs.out 0 f g (d : Int) (q : Int) k1 63 w2 hc2)
            rw [one_sign, hq63] at HI
            have HC2 := hid hc2
            have HK2 := hid hk2
            have HVQ := hid hvq
            have hqi : (q : Int) + 1 ≤ 9223372036854775807 := by omega
            have hq0 : (0 : Int) ≤ (q : Int) := by omega
            have hk1i : (k1 : Int) + 1 ≤ 9223372036854775807 := by omega
            have hk10 : (0 : Int) ≤ (k1 : Int) := by omega
            clear HL hc2 hk2 hvq
            by_cases hv0 : v = 0
            · have hask : ((q + 1 : Nat) == 0) = (q == 0 && !(n == 0)) := by
                have h1 : ((q + 1 : Nat) == 0) = false := by simp
                rw [h1]
                by_cases hz : q = 0
                · have : n = 0 := by rw [← HVQ.out (by omega)]; exact hv0
                  simp [this]
                · simp [hz]
              have hc3 := HC2.out.idle ((q : Int) + 1)
              have HA1 := hid (HC1.out d (q + 1) (w2.setCell ⟨R, 5, none⟩ (.int .i64 ((q : Int) + 1))) hd (by omega) (by push_cast; exact hc3))
              rw [hask, hr2] at HA1
              unfold AnsOk at HA1
              dsimp only at HA1
              push_cast at HA1
              subst hv0
              have HK3 := hid (HK2.out.setCell (a := ⟨R, 5, none⟩) rfl (.int .i64 ((q : Int) + 1)))
              clear hc3
              go_wp2_with fail
              refine HI.out.mono ?_
              rintro e4 w4 ⟨rfl, hw4⟩
              subst w4
              go_wp2_with fail
              refine HA1.out.mono ?_
              rintro e5 w5 ⟨hk5, v5, rfl, hv5I, hv5q, hc5⟩
              have HK5 := hid (HK3.out.trans hk5)
              have HC5 := hid hc5
              have HV5 := hid hv5q
              clear hv5q
              clear hk5 hc5 HA1 HI HK3
              obtain ⟨_, _, _, _, _, y5⟩ := HC5.out.facts
              obtain ⟨_, _, _, _, x5⟩ := HC5.out.warm
              go_wp2_with fail
              have HC6 := hid (HC5.out.idle (q : Int))
              have HK6 := hid (HK5.out.setCell (a := ⟨R, 5, none⟩) rfl (.int .i64 (q : Int)))
              refine (HIs.out 0 f g (d : Int) (q : Int) k2 58 _ HC6.out).mono ?_
              rintro e7 w7 ⟨rfl, hw7⟩
              subst w7
              rw [one_sign]
              have hkk0 : (0 : Int) ≤ (k2 : Int) := by omega
              have hkki : (k2 : Int) + 1 ≤ 9223372036854775807 := by omega
              rw [h58]
              have hask2 : (q == 0) = (q == 0 && n == 0) := by
                by_cases hz : q = 0
                · have : n = 0 := by rw [← HVQ.out (by omega)]
                  simp [hz, this]
                · simp [hz]
              have HA2 := hid (HCC.out d q _ hd (by omega) HC6.out)
              rw [hask2, hr3] at HA2
              unfold AnsOk at HA2
              dsimp only at HA2
              have HK7 := HK6
              go_wp2_with fail
              refine HA2.out.mono ?_
              rintro e9 w9 ⟨hk9, v9, rfl, hv9I, hv9q, hc9⟩
              have HV9 := hid hv9q
              clear hv9q
              have HK9 := hid (HK7.out.trans hk9)
              have HC9 := hid hc9
              clear hk9 hc9 HA2 HK7
              go_wp2_with fail
              go_ret2
              exact ⟨HK9.out, v9, rfl, hv9I, fun h => by rw [HV9.out h, ← HVAL.out, if_pos (by rw [← HVQ.out h]; decide)], HC9.out⟩
            · have hask : (q == 0) = (q == 0 && !(n == 0)) := by
                by_cases hz : q = 0
                · have : n ≠ 0 := by rw [← HVQ.out (by omega)]; exact hv0
                  simp [hz, this]
                · simp [hz]
              have HA1 := hid (HC1.out d q w2 hd (by omega) HC2.out)
              rw [hask, hr2] at HA1
              unfold AnsOk at HA1
              dsimp only at HA1
              have hvb : (v == 0) = false := by simpa using hv0
              have hvn : (v != 0) = true := by simpa using hv0
              have HK3 := HK2
              go_wp2_with fail
              refine HI.out.mono ?_
              rintro e4 w4 ⟨rfl, hw4⟩
              subst w4
              go_wp2_with fail
              refine HA1.out.mono ?_
              rintro e5 w5 ⟨hk5, v5, rfl, hv5I, hv5q, hc5⟩
              have HK5 := hid (HK3.out.trans hk5)
              have HC5 := hid hc5
              have HV5 := hid hv5q
              clear hv5q
              clear hk5 hc5 HA1 HI HK3
              go_wp2_with fail
              have HC6 := HC5
              have HK6 := HK5
              refine (HIs.out 0 f g (d : Int) (q : Int) k2 58 _ HC6.out).mono ?_
              rintro e7 w7 ⟨rfl, hw7⟩
              subst w7
              rw [one_sign]
              have hkk0 : (0 : Int) ≤ (k2 : Int) := by omega
              have hkki : (k2 : Int) + 1 ≤ 9223372036854775807 := by omega
              rw [h58]
              have hask2 : ((q + 1 : Nat) == 0) = (q == 0 && n == 0) := by
                have h1 : ((q + 1 : Nat) == 0) = false := by simp
                rw [h1]
                by_cases hz : q = 0
                · have : n ≠ 0 := by rw [← HVQ.out (by omega)]; exact hv0
                  simp [hz, this]
                · simp [hz]
              have hc7 := HC6.out.idle ((q : Int) + 1)
              have HA2 := hid (HCC.out d (q + 1) _ hd (by omega) (show CAt _ R a c ts 0 f g (d : Int) ((q + 1 : Nat) : Int) by push_cast; exact hc7))
              rw [hask2, hr3] at HA2
              unfold AnsOk at HA2
              dsimp only at HA2
              push_cast at HA2
              have HK7 := hid (HK6.out.setCell (a := ⟨R, 5, none⟩) rfl (.int .i64 ((q : Int) + 1)))
              obtain ⟨_, _, _, _, _, y5⟩ := HC6.out.facts
              obtain ⟨_, _, _, _, x5⟩ := HC6.out.warm
              clear hc7
              go_wp2_with fail
              refine HA2.out.mono ?_
              rintro e9 w9 ⟨hk9, v9, rfl, hv9I, hv9q, hc9⟩
              have HV9 := hid hv9q
              clear hv9q
              have HK9 := hid (HK7.out.trans hk9)
              have HC9 := hid hc9
              clear hk9 hc9 HA2 HK7
              obtain ⟨_, _, _, _, _, t5⟩ := HC9.out.facts
              obtain ⟨_, _, _, _, s5⟩ := HC9.out.warm
              go_wp2_with fail
              go_ret2
              exact ⟨HK9.out.setCell (a := ⟨R, 5, none⟩) rfl _, v5, rfl, hv5I, fun h => by rw [HV5.out h, ← HVAL.out, if_neg (by rw [← HVQ.out h]; simpa using hv0)], HC9.out.idle (q : Int)⟩
          · dsimp only
            go_enter Tryd.func18, Tryd.ntmps18
            go_wp2_with fail
            refine HL.out.mono ?_
            rintro e2 w2 ⟨hk2, v, rfl, hvI, hvq, hc2⟩
            obtain ⟨b0, b1, _, _, _, b5⟩ := hc2.facts
            obtain ⟨_, _, _, _, z5⟩ := hc2.warm
            have HI := hid (HIs.out 0 f g (d : Int) (q : Int) k1 63 w2 hc2)
            rw [one_sign, hq63] at HI
            have HC2 := hid hc2
            have HK2 := hid hk2
            have HVQ := hid hvq
            have hqi : (q : Int) + 1 ≤ 9223372036854775807 := by omega
            have hq0 : (0 : Int) ≤ (q : Int) := by omega
            have hk1i : (k1 : Int) + 1 ≤ 9223372036854775807 := by omega
            have hk10 : (0 : Int) ≤ (k1 : Int) := by omega
            clear HL hc2 hk2 hvq
            by_cases hv0 : v = 0
            · have hask : ((q + 1 : Nat) == 0) = (q == 0 && !(n == 0)) := by
                have h1 : ((q + 1 : Nat) == 0) = false := by simp
                rw [h1]
                by_cases hz : q = 0
                · have : n = 0 := by rw [← HVQ.out (by omega)]; exact hv0
                  simp [this]
                · simp [hz]
              have hc3 := HC2.out.idle ((q : Int) + 1)
              have HA1 := hid (HC1.out d (q + 1) (w2.setCell ⟨R, 5, none⟩ (.int .i64 ((q : Int) + 1))) hd (by omega) (by push_cast; exact hc3))
              rw [hask, hr2] at HA1
              unfold AnsOk at HA1
              dsimp only at HA1
              push_cast at HA1
              subst hv0
              have HK3 := hid (HK2.out.setCell (a := ⟨R, 5, none⟩) rfl (.int .i64 ((q : Int) + 1)))
              clear hc3
              go_wp2_with fail
              refine HI.out.mono ?_
              rintro e4 w4 ⟨rfl, hw4⟩
              subst w4
              go_wp2_with fail
              refine HA1.out.mono ?_
              rintro e5 w5 ⟨hk5, v5, rfl, hv5I, hv5q, hc5⟩
              have HK5 := hid (HK3.out.trans hk5)
              have HC5 := hid hc5
              have HV5 := hid hv5q
              clear hv5q
              clear hk5 hc5 HA1 HI HK3
              obtain ⟨_, _, _, _, _, y5⟩ := HC5.out.facts
              obtain ⟨_, _, _, _, x5⟩ := HC5.out.warm
              go_wp2_with fail
              have HC6 := hid (HC5.out.idle (q : Int))
              have HK6 := hid (HK5.out.setCell (a := ⟨R, 5, none⟩) rfl (.int .i64 (q : Int)))
              refine (HIs.out 0 f g (d : Int) (q : Int) k2 58 _ HC6.out).mono ?_
              rintro e7 w7 ⟨rfl, hw7⟩
              subst w7
              rw [one_sign]
              have hkk0 : (0 : Int) ≤ (k2 : Int) := by omega
              have hkki : (k2 : Int) + 1 ≤ 9223372036854775807 := by omega
              rw [h58]
              have hask2 : (q == 0) = (q == 0 && n == 0) := by
                by_cases hz : q = 0
                · have : n = 0 := by rw [← HVQ.out (by omega)]
                  simp [hz, this]
                · simp [hz]
              have HA2 := hid (HCC.out d q _ hd (by omega) HC6.out)
              rw [hask2, hr3] at HA2
              unfold AnsOk at HA2
              dsimp only at HA2
              have HK7 := HK6
              go_wp2_with fail
              refine HA2.out.mono ?_
              rintro e9 w9 ⟨hk9, v9, kk, rfl, hkk, he9, hc9⟩
              have HK9 := hid (HK7.out.trans hk9)
              have HC9 := hid hc9
              clear hk9 hc9 HA2 HK7
              go_wp2_with fail
              go_ret2
              exact ⟨HK9.out, v9, kk, rfl, by omega, he9, HC9.out⟩
            · have hask : (q == 0) = (q == 0 && !(n == 0)) := by
                by_cases hz : q = 0
                · have : n ≠ 0 := by rw [← HVQ.out (by omega)]; exact hv0
                  simp [hz, this]
                · simp [hz]
              have HA1 := hid (HC1.out d q w2 hd (by omega) HC2.out)
              rw [hask, hr2] at HA1
              unfold AnsOk at HA1
              dsimp only at HA1
              have hvb : (v == 0) = false := by simpa using hv0
              have hvn : (v != 0) = true := by simpa using hv0
              have HK3 := HK2
              go_wp2_with fail
              refine HI.out.mono ?_
              rintro e4 w4 ⟨rfl, hw4⟩
              subst w4
              go_wp2_with fail
              refine HA1.out.mono ?_
              rintro e5 w5 ⟨hk5, v5, rfl, hv5I, hv5q, hc5⟩
              have HK5 := hid (HK3.out.trans hk5)
              have HC5 := hid hc5
              have HV5 := hid hv5q
              clear hv5q
              clear hk5 hc5 HA1 HI HK3
              go_wp2_with fail
              have HC6 := HC5
              have HK6 := HK5
              refine (HIs.out 0 f g (d : Int) (q : Int) k2 58 _ HC6.out).mono ?_
              rintro e7 w7 ⟨rfl, hw7⟩
              subst w7
              rw [one_sign]
              have hkk0 : (0 : Int) ≤ (k2 : Int) := by omega
              have hkki : (k2 : Int) + 1 ≤ 9223372036854775807 := by omega
              rw [h58]
              have hask2 : ((q + 1 : Nat) == 0) = (q == 0 && n == 0) := by
                have h1 : ((q + 1 : Nat) == 0) = false := by simp
                rw [h1]
                by_cases hz : q = 0
                · have : n ≠ 0 := by rw [← HVQ.out (by omega)]; exact hv0
                  simp [hz, this]
                · simp [hz]
              have hc7 := HC6.out.idle ((q : Int) + 1)
              have HA2 := hid (HCC.out d (q + 1) _ hd (by omega) (show CAt _ R a c ts 0 f g (d : Int) ((q + 1 : Nat) : Int) by push_cast; exact hc7))
              rw [hask2, hr3] at HA2
              unfold AnsOk at HA2
              dsimp only at HA2
              push_cast at HA2
              have HK7 := hid (HK6.out.setCell (a := ⟨R, 5, none⟩) rfl (.int .i64 ((q : Int) + 1)))
              obtain ⟨_, _, _, _, _, y5⟩ := HC6.out.facts
              obtain ⟨_, _, _, _, x5⟩ := HC6.out.warm
              clear hc7
              go_wp2_with fail
              refine HA2.out.mono ?_
              rintro e9 w9 ⟨hk9, v9, kk, rfl, hkk, he9, hc9⟩
              have HK9 := hid (HK7.out.trans hk9)
              have HC9 := hid hc9
              clear hk9 hc9 HA2 HK7
              obtain ⟨_, _, _, _, _, t5⟩ := HC9.out.facts
              obtain ⟨_, _, _, _, s5⟩ := HC9.out.warm
              go_wp2_with fail
              go_ret2
              exact ⟨HK9.out.setCell (a := ⟨R, 5, none⟩) rfl _, v5, kk, rfl, by omega, he9, HC9.out.idle (q : Int)⟩
        · rw [if_neg h58]
          have h58' : ((signAt ts k2).toList == [58]) = false := by simpa using h58
          go_enter Tryd.func18, Tryd.ntmps18
          go_wp2_with fail
          refine HL.out.mono ?_
          rintro e2 w2 ⟨hk2, v, rfl, hvI, hvq, hc2⟩
          obtain ⟨b0, b1, _, _, _, b5⟩ := hc2.facts
          obtain ⟨_, _, _, _, z5⟩ := hc2.warm
          have HI := hid (HIs.out 0 f g (d : Int) (q : Int) k1 63 w2 hc2)
          rw [one_sign, hq63] at HI
          have HC2 := hid hc2
          have HK2 := hid hk2
          have HVQ := hid hvq
          have hqi : (q : Int) + 1 ≤ 9223372036854775807 := by omega
          have hq0 : (0 : Int) ≤ (q : Int) := by omega
          have hk1i : (k1 : Int) + 1 ≤ 9223372036854775807 := by omega
          have hk10 : (0 : Int) ≤ (k1 : Int) := by omega
          clear HL hc2 hk2 hvq
          by_cases hv0 : v = 0
          · have hask : ((q + 1 : Nat) == 0) = (q == 0 && !(n == 0)) := by
              have h1 : ((q + 1 : Nat) == 0) = false := by simp
              rw [h1]
              by_cases hz : q = 0
              · have : n = 0 := by rw [← HVQ.out (by omega)]; exact hv0
                simp [this]
              · simp [hz]
            have hc3 := HC2.out.idle ((q : Int) + 1)
            have HA1 := hid (HC1.out d (q + 1) (w2.setCell ⟨R, 5, none⟩ (.int .i64 ((q : Int) + 1))) hd (by omega) (by push_cast; exact hc3))
            rw [hask, hr2] at HA1
            unfold AnsOk at HA1
            dsimp only at HA1
            push_cast at HA1
            subst hv0
            have HK3 := hid (HK2.out.setCell (a := ⟨R, 5, none⟩) rfl (.int .i64 ((q : Int) + 1)))
            clear hc3
            go_wp2_with fail
            refine HI.out.mono ?_
            rintro e4 w4 ⟨rfl, hw4⟩
            subst w4
            go_wp2_with fail
            refine HA1.out.mono ?_
            rintro e5 w5 ⟨hk5, v5, rfl, hv5I, hv5q, hc5⟩
            have HK5 := hid (HK3.out.trans hk5)
            have HC5 := hid hc5
            have HV5 := hid hv5q
            clear hv5q
            clear hk5 hc5 HA1 HI HK3
            obtain ⟨_, _, _, _, _, y5⟩ := HC5.out.facts
            obtain ⟨_, _, _, _, x5⟩ := HC5.out.warm
            go_wp2_with fail
            have HC6 := hid (HC5.out.idle (q : Int))
            have HK6 := hid (HK5.out.setCell (a := ⟨R, 5, none⟩) rfl (.int .i64 (q : Int)))
            refine (HIs.out 0 f g (d : Int) (q : Int) k2 58 _ HC6.out).mono ?_
            rintro e7 w7 ⟨rfl, hw7⟩
            subst w7
            rw [one_sign]
            have hkk0 : (0 : Int) ≤ (k2 : Int) := by omega
            have hkki : (k2 : Int) + 1 ≤ 9223372036854775807 := by omega
            rw [h58']
            have HN := hid (stop_any R a c ts f g (d : Int) (q : Int) k2 2 _ HC6.out hl)
            go_wp2_with fail
            refine HN.out.mono ?_
            rintro e8 w8 ⟨rfl, hk8, hc8⟩
            have HC7 := hid hc8
            have HK7 := hid (HK6.out.trans hk8)
            clear hk8 hc8 HN
            go_wp2_with fail
            refine (choice_bad R a c ts 2 (placeOf ts k2).1 (placeOf ts k2).2 (d : Int) (q : Int) (by decide) ((k2 : Int) + 1) _ HC7.out).mono ?_
            rintro e9 w9 ⟨rfl, hb9⟩
            have HK9 := hid (HK7.out.trans (kept_of_below hb9))
            have HC9 := hid (HC7.out.below hb9)
            clear hb9
            go_wp2_with fail
            go_ret2
            exact ⟨HK9.out, 0, k2 + 1, rfl, by omega, (by decide), HC9.out⟩
          · have hask : (q == 0) = (q == 0 && !(n == 0)) := by
              by_cases hz : q = 0
              · have : n ≠ 0 := by rw [← HVQ.out (by omega)]; exact hv0
                simp [hz, this]
              · simp [hz]
            have HA1 := hid (HC1.out d q w2 hd (by omega) HC2.out)
            rw [hask, hr2] at HA1
            unfold AnsOk at HA1
            dsimp only at HA1
            have hvb : (v == 0) = false := by simpa using hv0
            have hvn : (v != 0) = true := by simpa using hv0
            have HK3 := HK2
            go_wp2_with fail
            refine HI.out.mono ?_
            rintro e4 w4 ⟨rfl, hw4⟩
            subst w4
            go_wp2_with fail
            refine HA1.out.mono ?_
            rintro e5 w5 ⟨hk5, v5, rfl, hv5I, hv5q, hc5⟩
            have HK5 := hid (HK3.out.trans hk5)
            have HC5 := hid hc5
            have HV5 := hid hv5q
            clear hv5q
            clear hk5 hc5 HA1 HI HK3
            go_wp2_with fail
            have HC6 := HC5
            have HK6 := HK5
            refine (HIs.out 0 f g (d : Int) (q : Int) k2 58 _ HC6.out).mono ?_
            rintro e7 w7 ⟨rfl, hw7⟩
            subst w7
            rw [one_sign]
            have hkk0 : (0 : Int) ≤ (k2 : Int) := by omega
            have hkki : (k2 : Int) + 1 ≤ 9223372036854775807 := by omega
            rw [h58']
            have HN := hid (stop_any R a c ts f g (d : Int) (q : Int) k2 2 _ HC6.out hl)
            go_wp2_with fail
            refine HN.out.mono ?_
            rintro e8 w8 ⟨rfl, hk8, hc8⟩
            have HC7 := hid hc8
            have HK7 := hid (HK6.out.trans hk8)
            clear hk8 hc8 HN
            obtain ⟨_, _, _, _, _, y5⟩ := HC7.out.facts
            obtain ⟨_, _, _, _, x5⟩ := HC7.out.warm
            go_wp2_with fail
            have HC8 := hid (HC7.out.idle ((q : Int) + 1))
            have HK8 := hid (HK7.out.setCell (a := ⟨R, 5, none⟩) rfl (.int .i64 ((q : Int) + 1)))
            refine (choice_bad R a c ts 2 (placeOf ts k2).1 (placeOf ts k2).2 (d : Int) ((q : Int) + 1) (by decide) ((k2 : Int) + 1) _ HC8.out).mono ?_
            rintro e9 w9 ⟨rfl, hb9⟩
            have HK9 := hid (HK8.out.trans (kept_of_below hb9))
            have HC9 := hid (HC8.out.below hb9)
            obtain ⟨_, _, _, _, _, t5⟩ := HC9.out.facts
            obtain ⟨_, _, _, _, s5⟩ := HC9.out.warm
            clear hb9
            go_wp2_with fail
            go_ret2
            exact ⟨HK9.out.setCell (a := ⟨R, 5, none⟩) rfl _, v5, k2 + 1, rfl, by omega, (by decide), HC9.out.idle (q : Int)⟩
      · rw [hr2] at hf2
        dsimp only
        go_enter Tryd.func18, Tryd.ntmps18
        go_wp2_with fail
        refine HL.out.mono ?_
        rintro e2 w2 ⟨hk2, v, rfl, hvI, hvq, hc2⟩
        obtain ⟨b0, b1, _, _, _, b5⟩ := hc2.facts
        obtain ⟨_, _, _, _, z5⟩ := hc2.warm
        have HI := hid (HIs.out 0 f g (d : Int) (q : Int) k1 63 w2 hc2)
        rw [one_sign, hq63] at HI
        have HC2 := hid hc2
        have HK2 := hid hk2
        have HVQ := hid hvq
        have hqi : (q : Int) + 1 ≤ 9223372036854775807 := by omega
        have hq0 : (0 : Int) ≤ (q : Int) := by omega
        have hk1i : (k1 : Int) + 1 ≤ 9223372036854775807 := by omega
        have hk10 : (0 : Int) ≤ (k1 : Int) := by omega
        clear HL hc2 hk2 hvq
        by_cases hv0 : v = 0
        · have hask : ((q + 1 : Nat) == 0) = (q == 0 && !(n == 0)) := by
            have h1 : ((q + 1 : Nat) == 0) = false := by simp
            rw [h1]
            by_cases hz : q = 0
            · have : n = 0 := by rw [← HVQ.out (by omega)]; exact hv0
              simp [this]
            · simp [hz]
          have hc3 := HC2.out.idle ((q : Int) + 1)
          have HA1 := hid (HC1.out d (q + 1) (w2.setCell ⟨R, 5, none⟩ (.int .i64 ((q : Int) + 1))) hd (by omega) (by push_cast; exact hc3))
          rw [hask, hr2] at HA1
          unfold AnsOk at HA1
          dsimp only at HA1
          push_cast at HA1
          subst hv0
          have HK3 := hid (HK2.out.setCell (a := ⟨R, 5, none⟩) rfl (.int .i64 ((q : Int) + 1)))
          clear hc3
          go_wp2_with fail
          refine HI.out.mono ?_
          rintro e4 w4 ⟨rfl, hw4⟩
          subst w4
          go_wp2_with fail
          refine HA1.out.mono ?_
          rintro e5 w5 ⟨hk5, v5, kk, rfl, hkk, he3, hc5⟩
          have HK5 := hid (HK3.out.trans hk5)
          have HC5 := hid hc5
          clear hk5 hc5 HA1 HI HK3
          obtain ⟨_, _, _, _, _, y5⟩ := HC5.out.facts
          obtain ⟨_, _, _, _, x5⟩ := HC5.out.warm
          go_wp2_with fail
          have HC6 := hid (HC5.out.idle (q : Int))
          have HK6 := hid (HK5.out.setCell (a := ⟨R, 5, none⟩) rfl (.int .i64 (q : Int)))
          refine (HIs.out e3 (placeOf ts p3).1 (placeOf ts p3).2 (d : Int) (q : Int) kk 58 _ HC6.out).mono ?_
          rintro e7 w7 ⟨rfl, hw7⟩
          subst w7
          rw [one_sign]
          have hkk0 : (0 : Int) ≤ (kk : Int) := by omega
          have hkki : (kk : Int) + 1 ≤ 9223372036854775807 := by omega
          have HN := hid (stop_no R a c ts e3 (placeOf ts p3).1 (placeOf ts p3).2 (d : Int) (q : Int) he3 (kk : Int) 2 _ HC6.out)
          cases hβ : ((signAt ts kk).toList == [58])
          · go_wp2_with fail
            refine HN.out.mono ?_
            rintro e8 w8 ⟨rfl, hw8⟩
            subst w8
            go_wp2_with fail
            refine (choice_bad R a c ts e3 (placeOf ts p3).1 (placeOf ts p3).2 (d : Int) (q : Int) he3 ((kk : Int) + 1) _ HC6.out).mono ?_
            rintro e9 w9 ⟨rfl, hb9⟩
            have HK9 := hid (HK6.out.trans (kept_of_below hb9))
            have HC9 := hid (HC6.out.below hb9)
            clear hb9
            go_wp2_with fail
            go_ret2
            exact ⟨HK9.out, 0, kk + 1, rfl, by omega, he3, HC9.out⟩
          · go_wp2_with fail
            refine (choice_bad R a c ts e3 (placeOf ts p3).1 (placeOf ts p3).2 (d : Int) (q : Int) he3 ((kk : Int) + 1) _ HC6.out).mono ?_
            rintro e9 w9 ⟨rfl, hb9⟩
            have HK9 := hid (HK6.out.trans (kept_of_below hb9))
            have HC9 := hid (HC6.out.below hb9)
            clear hb9
            go_wp2_with fail
            go_ret2
            exact ⟨HK9.out, 0, kk + 1, rfl, by omega, he3, HC9.out⟩
        · have hask : (q == 0) = (q == 0 && !(n == 0)) := by
            by_cases hz : q = 0
            · have : n ≠ 0 := by rw [← HVQ.out (by omega)]; exact hv0
              simp [hz, this]
            · simp [hz]
          have HA1 := hid (HC1.out d q w2 hd (by omega) HC2.out)
          rw [hask, hr2] at HA1
          unfold AnsOk at HA1
          dsimp only at HA1
          have hvb : (v == 0) = false := by simpa using hv0
          have hvn : (v != 0) = true := by simpa using hv0
          have HK3 := HK2
          go_wp2_with fail
          refine HI.out.mono ?_
          rintro e4 w4 ⟨rfl, hw4⟩
          subst w4
          go_wp2_with fail
          refine HA1.out.mono ?_
          rintro e5 w5 ⟨hk5, v5, kk, rfl, hkk, he3, hc5⟩
          have HK5 := hid (HK3.out.trans hk5)
          have HC5 := hid hc5
          clear hk5 hc5 HA1 HI HK3
          go_wp2_with fail
          have HC6 := HC5
          have HK6 := HK5
          refine (HIs.out e3 (placeOf ts p3).1 (placeOf ts p3).2 (d : Int) (q : Int) kk 58 _ HC6.out).mono ?_
          rintro e7 w7 ⟨rfl, hw7⟩
          subst w7
          rw [one_sign]
          have hkk0 : (0 : Int) ≤ (kk : Int) := by omega
          have hkki : (kk : Int) + 1 ≤ 9223372036854775807 := by omega
          have HN := hid (stop_no R a c ts e3 (placeOf ts p3).1 (placeOf ts p3).2 (d : Int) (q : Int) he3 (kk : Int) 2 _ HC6.out)
          obtain ⟨_, _, _, _, _, y5⟩ := HC6.out.facts
          obtain ⟨_, _, _, _, x5⟩ := HC6.out.warm
          cases hβ : ((signAt ts kk).toList == [58])
          · go_wp2_with fail
            refine HN.out.mono ?_
            rintro e8 w8 ⟨rfl, hw8⟩
            subst w8
            go_wp2_with fail
            have HC8 := hid (HC6.out.idle ((q : Int) + 1))
            have HK8 := hid (HK6.out.setCell (a := ⟨R, 5, none⟩) rfl (.int .i64 ((q : Int) + 1)))
            refine (choice_bad R a c ts e3 (placeOf ts p3).1 (placeOf ts p3).2 (d : Int) ((q : Int) + 1) he3 ((kk : Int) + 1) _ HC8.out).mono ?_
            rintro e9 w9 ⟨rfl, hb9⟩
            have HK9 := hid (HK8.out.trans (kept_of_below hb9))
            have HC9 := hid (HC8.out.below hb9)
            obtain ⟨_, _, _, _, _, t5⟩ := HC9.out.facts
            obtain ⟨_, _, _, _, s5⟩ := HC9.out.warm
            clear hb9
            go_wp2_with fail
            go_ret2
            exact ⟨HK9.out.setCell (a := ⟨R, 5, none⟩) rfl _, v5, kk + 1, rfl, by omega, he3, HC9.out.idle (q : Int)⟩
          · go_wp2_with fail
            have HC8 := hid (HC6.out.idle ((q : Int) + 1))
            have HK8 := hid (HK6.out.setCell (a := ⟨R, 5, none⟩) rfl (.int .i64 ((q : Int) + 1)))
            refine (choice_bad R a c ts e3 (placeOf ts p3).1 (placeOf ts p3).2 (d : Int) ((q : Int) + 1) he3 ((kk : Int) + 1) _ HC8.out).mono ?_
            rintro e9 w9 ⟨rfl, hb9⟩
            have HK9 := hid (HK8.out.trans (kept_of_below hb9))
            have HC9 := hid (HC8.out.below hb9)
            obtain ⟨_, _, _, _, _, t5⟩ := HC9.out.facts
            obtain ⟨_, _, _, _, s5⟩ := HC9.out.warm
            clear hb9
            go_wp2_with fail
            go_ret2
            exact ⟨HK9.out.setCell (a := ⟨R, 5, none⟩) rfl _, v5, kk + 1, rfl, by omega, he3, HC9.out.idle (q : Int)⟩
    · rw [if_neg hq63]
      have hq63' : ((signAt ts k1).toList == [63]) = false := by simpa using hq63
      unfold AnsOk at HL
      dsimp only at HL
      go_enter Tryd.func18, Tryd.ntmps18
      go_wp2_with fail
      refine HL.out.mono ?_
      rintro e2 w2 ⟨hk2, v, rfl, hvI, hvq, hc2⟩
      obtain ⟨b0, b1, _⟩ := hc2.facts
      have HI := hid (HIs.out 0 f g (d : Int) (q : Int) k1 63 w2 hc2)
      rw [one_sign, hq63'] at HI
      have HC2 := hid hc2
      have HK2 := hid hk2
      have HVQ := hid hvq
      clear HL HIs hc2 hk2 hvq
      go_wp2_with fail
      refine HI.out.mono ?_
      rintro e3 w3 ⟨rfl, hw3⟩
      subst w3
      go_wp2_with fail
      go_ret2
      exact ⟨HK2.out, v, rfl, hvI, HVQ.out, HC2.out⟩
  · rw [hr1] at HL
    dsimp only
    unfold AnsOk at HL
    dsimp only at HL
    go_enter Tryd.func18, Tryd.ntmps18
    go_wp2_with fail
    refine HL.out.mono ?_
    rintro e2 w2 ⟨hk2, v, kk, rfl, hkk, he1, hc2⟩
    obtain ⟨b0, b1, _⟩ := hc2.facts
    have hb : (e1 != 0) = true := by simpa using he1
    have HC2 := hid hc2
    have HK2 := hid hk2
    clear HL HIs hc2 hk2
    go_wp2_with fail
    go_ret2
    exact ⟨HK2.out, v, kk, rfl, hkk, he1, HC2.out⟩
end Go.Proofs.YtienjifhkmekcaaDoor
namespace Go.Proofs.YtienjifhkmekcaaDoor
open Go.RowKit Go.Shelf

set_option maxRecDepth 100000 in
set_option maxHeartbeats 1000000 in
theorem level_top (R : Nat) (a : Option Addr) (c : Nat) (ts : List Tk) (f g : Int) (k : Nat) (hk : k ≤ ts.length) (hA : AtomC R a c ts f g k) : LevelRC R a c ts f g 10 k := by
  intro d q w hd hq h
  rw [show (((10 : Nat) : Int) + 1) = 11 from rfl, RD_top numL hk]
  have HL := hid (levels_any w)
  have HA := hid (fun W (hW : Below w.heap.size w W) => hA d q W hd (by omega) (h.below hW))
  clear h hA
  generalize RD numL ts 3 0 0 k d (q == 0) = r at HA ⊢
  go_enter Tryd.func32, Tryd.ntmps32
  go_wp2_with fail
  refine HL.out.mono ?_
  rintro e1 w1 ⟨B, rfl, _, hb1⟩
  have HB1 := hid hb1
  clear hb1 HL
  go_wp2_with fail
  refine (HA.out _ HB1.out).mono ?_
  rintro e2 w2 ⟨hk2, h2⟩
  have HK2 := hid ((kept_of_below HB1.out : Kept (· = R) w w1).trans hk2)
  clear hk2 HA
  rcases r with ⟨n, k1⟩ | ⟨e0, p⟩
  · obtain ⟨v, rfl, h3, h4, h5⟩ := h2
    have H4 := hid h4
    clear h4
    go_wp2_with fail
    go_ret2
    exact ⟨HK2.out, v, rfl, h3, H4.out, h5⟩
  · obtain ⟨v, kk, rfl, h3, h4, h5⟩ := h2
    go_wp2_with fail
    go_ret2
    exact ⟨HK2.out, v, kk, rfl, h3, h4, h5⟩

theorem eval_ret {W : World} {F : Nat} {e f g : Int} {v : Value} (hF : FBx W F e f g) (tmps : Array Value) (h2 : tmps.getD 2 undef = v) (h3 : tmps.getD 3 undef = .pointer (some ⟨F, 0, none⟩)) :
    (results Tryd.f6 tmps).run Tryd.prog W = .ok (.tuple #[v, .agg #[.int .i64 e, .int .i64 f, .int .i64 g]]) W := by
  obtain ⟨c0, c1, c2, _⟩ := hF.facts
  simp at h2 h3
  simp [results, Tryd.results6, go_sem, h2, h3, c0, c1, c2]

theorem FBx.drew {w : World} {B : Nat} {e f g : Int} (h : FBx w B e f g) : FBx w.drew B e f g := h
theorem FBx.keptR {w w' : World} {B R : Nat} {e f g : Int} (h : FBx w B e f g) (hk : Kept (· = R) w w') (hne : B ≠ R) : FBx w' B e f g := (hk.block B (lt_of_block h) hne).trans h

set_option maxRecDepth 100000 in
set_option maxHeartbeats 2000000 in
theorem REval_of (a : Option Addr) (c : Nat) (ts : List Tk) (w : World) (hT : TAt w a ts) (hl : ts.length ≤ 3000) (hC : ∀ R, ChoiceRC R a c ts (-1) 0 0) :
    Calls Tryd.prog 6 #[.slice a ts.length c] w fun e w' => e = .returned (.tuple #[.int .i64 (evalL numL ts).1, .agg #[.int .i64 (evalL numL ts).2.1, .int .i64 (evalL numL ts).2.2.1, .int .i64 (evalL numL ts).2.2.2]]) ∧ Below w.heap.size w w' := by
  have hb0 := (Below.refl w.heap.size w).alloc (Nat.le_refl _) (.cells #[.int .i64 0, .int .i64 0, .int .i64 0] 25)
  have hF0 := FBx.new w 0 0 0
  generalize hw1 : w.alloc (.cells #[.int .i64 0, .int .i64 0, .int .i64 0] 25) = w1 at hb0 hF0
  have hs1 : w1.heap.size = w.heap.size + 1 := by rw [← hw1]; simp
  have hb1 := (Below.refl w1.heap.size w1).alloc (Nat.le_refl _) (.cells #[.slice a ts.length c, .int .i64 0, .int .i64 (-1), .int .i64 0, .int .i64 0, .int .i64 0] 55)
  have hC2 : CAt (w1.alloc (.cells #[.slice a ts.length c, .int .i64 0, .int .i64 (-1), .int .i64 0, .int .i64 0, .int .i64 0] 55)) (w.heap.size + 1) a c ts 0 (-1) 0 0 0 :=
    ⟨by rw [← hs1]; exact heap_alloc_new w1 _, (hT.below hb0).below hb1⟩
  have HF2 := hid (hF0.below hb1)
  have HB2 := hid (hb0.trans (hb1.mono hb0.size))
  rw [← hw1] at hC2 HF2 HB2
  clear hb0 hb1 hF0 hs1 hw1 hT
  have HA := hid (hC (w.heap.size + 1) 0 0 _ (by omega) (by omega) hC2)
  have HE : Hid (evalL numL ts = match RD numL ts 0 0 0 0 0 true with
      | .inr (e, i) => (0, (e, (placeOf ts i).1, (placeOf ts i).2))
      | .inl (n, k) => if k < ts.length then (0, (2, (placeOf ts k).1, (placeOf ts k).2)) else (n, (0, -1, 0))) := rfl
  have hf := RD_fine numL 0 0 true (⟨Nat.zero_le _, .inr (.inl rfl), by omega⟩ : Ask ts 0 0 0)
  rw [show ((0 : Nat) == 0) = true from rfl] at HA
  generalize RD numL ts 0 0 0 0 0 true = r at HA HE hf
  generalize evalL numL ts = E at HE ⊢
  have hne : w.heap.size ≠ w.heap.size + 1 := by omega
  clear hC hC2
  rcases r with ⟨n, k⟩ | ⟨e0, p⟩
  · obtain ⟨_, _, f3⟩ := hf
    unfold AnsOk at HA
    dsimp only at HA HE
    have hki : (0 : Int) ≤ (k : Int) := by omega
    by_cases hk : k < ts.length
    · rw [if_pos hk] at HE
      have hkd : (k : Int) < (ts.length : Int) := by omega
      go_enter Tryd.func6, Tryd.ntmps6
      go_wp2_with fail
      refine HA.out.mono ?_
      rintro e3 w3 ⟨hk3, v, rfl, hvI, hvq, hc3⟩
      have HF3 := hid (HF2.out.keptR hk3 hne)
      have HB3 := hid (HB2.out.trans (kept_low hk3 (fun j hj => by omega) HB2.out.size))
      have HS := hid (stop_any _ a c ts (-1) 0 0 0 k 2 w3 hc3 hl)
      have HC3 := hid hc3
      clear HA hk3 hc3 HF2 HB2
      go_wp2_with fail
      refine HS.out.mono ?_
      rintro e4 w4 ⟨rfl, hk4, hc4⟩
      have HF4 := hid (HF3.out.keptR hk4 hne)
      have HB4 := hid (HB3.out.trans (kept_low hk4 (fun j hj => by omega) HB3.out.size))
      obtain ⟨b0, b1, b2, b3, _⟩ := hc4.facts
      obtain ⟨z0, z1, z2, z3, z4, z5⟩ := HF4.out.facts
      clear HS hk4 hc4 HF3 HB3 HC3
      go_wp2_with fail
      go_region
      go_wp2_with fail
      exact bodyPost_ret (eval_ret (FBx.drew (HF4.out.set _ _ _)) _ rfl rfl) rfl ⟨by rw [HE.out]; rfl, (FBx.frame HB4.out (Nat.le_refl _) _ _ _).drew⟩
    · rw [if_neg hk] at HE
      have hkd : ¬ ((k : Int) < (ts.length : Int)) := by omega
      go_enter Tryd.func6, Tryd.ntmps6
      go_wp2_with fail
      refine HA.out.mono ?_
      rintro e3 w3 ⟨hk3, v, rfl, hvI, hvq, hc3⟩
      obtain rfl : v = n := hvq rfl
      have HF3 := hid (HF2.out.keptR hk3 hne)
      have HB3 := hid (HB2.out.trans (kept_low hk3 (fun j hj => by omega) HB2.out.size))
      obtain ⟨b0, b1, b2, b3, _⟩ := hc3.facts
      obtain ⟨z0, z1, z2, z3, z4, z5⟩ := HF3.out.facts
      clear HA hk3 hc3 HF2 HB2 hvq
      go_wp2_with fail
      go_region
      go_wp2_with fail
      exact bodyPost_ret (eval_ret (FBx.drew (HF3.out.set _ _ _)) _ rfl rfl) rfl ⟨by rw [HE.out]; rfl, (FBx.frame HB3.out (Nat.le_refl _) _ _ _).drew⟩
  · unfold AnsOk at HA
    dsimp only at HA HE
    go_enter Tryd.func6, Tryd.ntmps6
    go_wp2_with fail
    refine HA.out.mono ?_
    rintro e3 w3 ⟨hk3, v, kk, rfl, hkk, he0, hc3⟩
    have HF3 := hid (HF2.out.keptR hk3 hne)
    have HB3 := hid (HB2.out.trans (kept_low hk3 (fun j hj => by omega) HB2.out.size))
    have HS := hid (stop_no _ a c ts e0 (placeOf ts p).1 (placeOf ts p).2 0 0 he0 (kk : Int) 2 w3 hc3)
    obtain ⟨b0, b1, b2, b3, _⟩ := hc3.facts
    obtain ⟨z0, z1, z2, z3, z4, z5⟩ := HF3.out.facts
    have heb : (e0 != 0) = true := by simpa using he0
    clear HA hk3 hc3 HF2 HB2
    by_cases hk : kk < ts.length
    · have hkd : (kk : Int) < (ts.length : Int) := by omega
      go_wp2_with fail
      refine HS.out.mono ?_
      rintro e4 w4 ⟨rfl, hw4⟩
      subst w4
      go_wp2_with fail
      go_region
      go_wp2_with fail
      exact bodyPost_ret (eval_ret (FBx.drew (HF3.out.set _ _ _)) _ rfl rfl) rfl ⟨by rw [HE.out]; rfl, (FBx.frame HB3.out (Nat.le_refl _) _ _ _).drew⟩
    · have hkd : ¬ ((kk : Int) < (ts.length : Int)) := by omega
      go_wp2_with fail
      go_region
      go_wp2_with fail
      exact bodyPost_ret (eval_ret (FBx.drew (HF3.out.set _ _ _)) _ rfl rfl) rfl ⟨by rw [HE.out]; rfl, (FBx.frame HB3.out (Nat.le_refl _) _ _ _).drew⟩
end Go.Proofs.YtienjifhkmekcaaDoor
namespace Go.Proofs.YtienjifhkmekcaaDoor
open Go.RowKit Go.Shelf

/-- The step of Level below the last one. -/
def LevelStepC (R : Nat) (a : Option Addr) (c : Nat) (ts : List Tk) (f g : Int) : Prop := ∀ n k, n < 10 → k ≤ ts.length → (∀ j, k ≤ j → j ≤ ts.length → LevelRC R a c ts f g (n + 1) j) → LevelRC R a c ts f g n k

theorem all_read (R : Nat) (a : Option Addr) (c : Nat) (ts : List Tk) (f g : Int) (hl : ts.length ≤ 3000) (hT : Texts ts) (hS : LevelStepC R a c ts f g) : ∀ m k, ts.length - k = m → k ≤ ts.length → AtomC R a c ts f g k ∧ (∀ n, n ≤ 10 → LevelRC R a c ts f g n k) ∧ ChoiceRC R a c ts f g k := by
  intro m
  induction m using Nat.strongRecOn with
  | ind m ih =>
    intro k hm hk
    have hi : ∀ j, k < j → j ≤ ts.length → AtomC R a c ts f g j ∧ (∀ n, n ≤ 10 → LevelRC R a c ts f g n j) ∧ ChoiceRC R a c ts f g j := fun j h1 h2 => ih (ts.length - j) (by omega) j rfl h2
    have hA : AtomC R a c ts f g k := atom_step R a c ts f g k hk hl hT (fun h => (hi (k + 1) (by omega) h).1) (fun h => (hi (k + 1) (by omega) h).2.2)
    have hL : ∀ i n, n + i = 10 → LevelRC R a c ts f g n k := by
      intro i
      induction i with
      | zero =>
        intro n hn
        obtain rfl : n = 10 := by omega
        exact level_top R a c ts f g k hk hA
      | succ i ihi =>
        intro n hn
        refine hS n k (by omega) hk (fun j h1 h2 => ?_)
        rcases Nat.eq_or_lt_of_le h1 with rfl | h3
        · exact ihi (n + 1) (by omega)
        · exact (hi j h3 h2).2.1 (n + 1) (by omega)
    exact ⟨hA, fun n hn => hL (10 - n) n (by omega), choice_stepR R a c ts f g k hk hl (hL 10 0 rfl) (fun j h1 h2 => (hi j h1 h2).2.2)⟩

end Go.Proofs.YtienjifhkmekcaaDoor
namespace Go.Proofs.YtienjifhkmekcaaDoor
open Go.RowKit Go.Shelf

theorem any_data (l : List UInt8) (r : List ByteArray) : (r.any fun s => l == s.toList) = (r.map fun s => s.data.toList).any (fun m => l == m) := by
  induction r with
  | nil => rfl
  | cons s r ih => rw [List.any_cons, List.map_cons, List.any_cons, ih, toList_data]
/-- The rows as bytes. -/
def lvlB : List (List (List UInt8)) := [[[124, 124]], [[38, 38]], [[124]], [[94]], [[38]], [[61, 61], [33, 61]], [[60], [62], [60, 61], [62, 61]], [[60, 60], [62, 62]], [[43], [45]], [[42], [47], [37]]]
theorem lvls_data : lvls.map (fun r => r.map fun s => s.data.toList) = lvlB := rfl
theorem hit_bytes (l : List UInt8) (n : Nat) (r : List (List UInt8)) (hr : lvlB[n]? = some r) : (r.any fun m => l == m) = (levelL l == (n : Int) + 1) := by
  by_cases h : l ∈ lvlB.flatten
  · simp only [lvlB, List.flatten_cons, List.flatten_nil, List.append_nil, List.cons_append, List.nil_append, List.mem_cons, List.not_mem_nil, or_false] at h
    have hn : n < 10 := (List.getElem?_eq_some_iff.1 hr).1
    have key : ∀ l ∈ lvlB.flatten, ∀ n : Fin 10, ((lvlB[n.1]?.getD []).any fun m => l == m) = (levelL l == (n.1 : Int) + 1) := by decide
    have := key l (by simp only [lvlB, List.flatten_cons, List.flatten_nil, List.append_nil, List.cons_append, List.nil_append, List.mem_cons, List.not_mem_nil, or_false]; exact h) ⟨n, hn⟩
    rw [hr] at this
    exact this
  · have h0 : levelL l = 0 := by
      simp only [lvlB, List.flatten_cons, List.flatten_nil, List.append_nil, List.cons_append, List.nil_append, List.mem_cons, List.not_mem_nil, or_false, not_or] at h
      unfold levelL
      simp [h]
    have hm : ∀ m ∈ r, ¬ l = m := fun m hm e => h (List.mem_flatten.2 ⟨r, List.mem_of_getElem? hr, by rw [e]; exact hm⟩)
    have h1 : (r.any fun m => l == m) = false := by
      rw [List.any_eq_false]
      intro m hx
      simpa using hm m hx
    have h2 : ((0 : Int) == (n : Int) + 1) = false := by
      rw [beq_eq_false_iff_ne]
      omega
    rw [h0, h1, h2]
/-- A sign stands in the row of level n exactly where its level is n + 1. -/
theorem hit_level (l : List UInt8) (n : Nat) (r : List ByteArray) (hr : lvls[n]? = some r) : (r.any fun s => l == s.toList) = (levelL l == (n : Int) + 1) := by
  rw [any_data]
  refine hit_bytes l n _ ?_
  rw [← lvls_data, List.getElem?_map, hr]
  rfl

end Go.Proofs.YtienjifhkmekcaaDoor
namespace Go.Proofs.YtienjifhkmekcaaDoor
open Go.RowKit Go.Shelf

set_option maxRecDepth 100000 in
set_option maxHeartbeats 2000000 in
/-- Where the side on the left has a fault, Level has it. -/
theorem level_left_bad (R : Nat) (a : Option Addr) (c : Nat) (ts : List Tk) (f g : Int) (n k : Nat) (hn : n < 10) (hLv : LevelRC R a c ts f g (n + 1) k) (d q : Nat) (e1 : Int) (p1 : Nat) (hr : RD numL ts 1 ((n : Int) + 1 + 1) 0 k d (q == 0) = .inr (e1, p1)) (w : World) (hd : d ≤ 30) (hq : q + (ts.length - k) ≤ 100000) (h : CAt w R a c ts 0 f g (d : Int) (q : Int)) :
    Calls Tryd.prog 32 #[.pointer (some ⟨R, 0, none⟩), .int .i64 (n : Int), .int .i64 (k : Int)] w (AnsOk R a c ts f g (d : Int) (q : Int) k w (.inr (e1, p1))) := by
  have HL := hid (levels_any w)
  have HA := hid (fun W (hW : Below w.heap.size w W) => hLv d q W hd hq (h.below hW))
  push_cast at HA
  rw [hr] at HA
  have hne : ((n : Int) == 10) = false := by rw [beq_eq_false_iff_ne]; omega
  have hnp : IntKind.i64.wrap ((n : Int) + 1) = (n : Int) + 1 := by rw [IntKind.wrap_i64]; omega
  have hnw : wrap64 ((n : Int) + 1) = (n : Int) + 1 := by unfold wrap64; omega
  clear h hLv hr
  go_enter Tryd.func32, Tryd.ntmps32
  go_wp2_with fail
  refine HL.out.mono ?_
  rintro e2 w2 ⟨B, rfl, _, hb1⟩
  have HB1 := hid hb1
  clear hb1 HL
  go_wp2_with fail
  refine (HA.out _ HB1.out).mono ?_
  rintro e3 w3 h3
  unfold AnsOk at h3
  dsimp only at h3
  obtain ⟨hk3, v, j, rfl, hj, he, hc3⟩ := h3
  obtain ⟨b0, b1, _⟩ := hc3.facts
  have hb : (e1 == 0) = false := by rw [beq_eq_false_iff_ne]; exact he
  have hb' : (e1 != 0) = true := by simpa using he
  have HK3 := hid ((kept_of_below HB1.out).trans hk3)
  have HC3 := hid hc3
  have HE := hid he
  clear hk3 hc3 he HA
  go_wp2_with fail
  refine wp_loop_rounds 1 ?_
  rw [rounds_succ]
  go_wp2_with fail
  go_ret2
  exact ⟨HK3.out, v, j, rfl, hj, HE.out, HC3.out⟩

end Go.Proofs.YtienjifhkmekcaaDoor
namespace Go.Proofs.YtienjifhkmekcaaDoor
open Go.RowKit Go.Shelf

/-- Where something between signs of a level on has been read, no sign of that level follows. -/
theorem RD_behind (num : NumS) {ts : List Tk} {level : Int} (hl : 1 ≤ level) {k : Nat} (hk : k ≤ ts.length) (d : Nat) (asked : Bool) (m : Int) (j : Nat) (h : RD num ts 1 level 0 k d asked = .inl (m, j)) : levelL (signAt ts j).toList < level := by
  rw [RD_between num hl hk] at h
  have hf := RD_fine num 0 d asked (⟨hk, .inr (.inr rfl), by omega⟩ : Ask ts 3 0 k)
  rcases hr : RD num ts 3 0 0 k d asked with ⟨x, y⟩ | e
  · rw [hr] at h hf
    exact RD_ends num hl d asked _ y x m j rfl hf.2.2 h
  · rw [hr] at h
    cases h
theorem lvls_some (n : Nat) (h : n < 10) : ∃ r, lvls[n]? = some r := ⟨_, List.getElem?_eq_getElem (show n < lvls.length from h)⟩
theorem lvls_full (n : Nat) (r : List ByteArray) (h : lvls[n]? = some r) (s : ByteArray) (hs : s ∈ r) : s.size ≠ 0 := by
  have key : ∀ r ∈ lvls, ∀ s ∈ r, s.size ≠ 0 := by decide
  exact key r (List.mem_of_getElem? h) s hs
theorem lvls_few (n : Nat) (r : List ByteArray) (h : lvls[n]? = some r) : r.length ≤ 10000 := by
  have key : ∀ r ∈ lvls, r.length ≤ 4 := by decide
  have := key r (List.mem_of_getElem? h)
  omega
theorem not_hit (x : Int) (n : Nat) (h1 : (x == (n : Int) + 1) = false) (h2 : x < (n : Int) + 1 + 1) : x < (n : Int) + 1 := by
  have : x ≠ (n : Int) + 1 := by simpa using h1
  omega
theorem zero_q {q : Nat} (h : (q : Int) = 0) : q = 0 := by omega
theorem bound_d {j k n : Nat} (h1 : j ≤ n) (h2 : k ≤ n) : j + k ≤ 2 * n + 5 := by omega
/-- The signs of all levels. -/
theorem level_ops (l : List UInt8) (h : levelL l ≠ 0) : l = [38, 38] ∨ l = [124, 124] ∨ (l ∈ opsR ∧ (l == [38, 38]) = false ∧ (l == [124, 124]) = false ∧ ∀ m, asksL l m = true) := by
  have key : ∀ l ∈ lvlB.flatten, l = [38, 38] ∨ l = [124, 124] ∨ (l ∈ opsR ∧ (l == [38, 38]) = false ∧ (l == [124, 124]) = false) := by decide
  by_cases hm : l ∈ lvlB.flatten
  · rcases key l hm with h1 | h1 | ⟨h1, h2, h3⟩
    · exact .inl h1
    · exact .inr (.inl h1)
    · exact .inr (.inr ⟨h1, h2, h3, fun m => by unfold asksL; rw [h2, h3]; rfl⟩)
  · exfalso
    apply h
    simp only [lvlB, List.flatten_cons, List.flatten_nil, List.append_nil, List.cons_append, List.nil_append, List.mem_cons, List.not_mem_nil, or_false, not_or] at hm
    unfold levelL
    simp [hm]
/-- A sign of a level is a token's text. -/
theorem sign_tok {ts : List Tk} {k : Nat} (h : levelL (signAt ts k).toList ≠ 0) : ∃ t, ts[k]? = some t ∧ signAt ts k = t.text ∧ k < ts.length := by
  unfold signAt at h ⊢
  rcases ht : ts[k]? with _ | t
  · rw [ht] at h
    exact absurd (by rw [toList_data]; rfl) h
  · rw [ht] at h
    dsimp only at h ⊢
    by_cases h5 : t.kind = 5
    · exact ⟨t, rfl, if_pos h5, (List.getElem?_eq_some_iff.1 ht).1⟩
    · rw [if_neg h5] at h
      exact absurd (by rw [toList_data]; rfl) h
/-- What a round of signs leads to, once the right side is read. -/
def NextR (ts : List Tk) (n : Nat) (m : Int) (k' d q : Nat) (r : Rd) (m2 : Int) (j : Nat) : Prop :=
  (q = 0 → wrongL (signAt ts k').toList m2 = 0 → RD numL ts 2 ((n : Int) + 1) (reckonL (signAt ts k').toList m m2) j d (q == 0) = r) ∧
  (q = 0 → wrongL (signAt ts k').toList m2 ≠ 0 → r = .inr (wrongL (signAt ts k').toList m2, k')) ∧
  (q ≠ 0 → RD numL ts 2 ((n : Int) + 1) m j d (q == 0) = r)
/-- What the right side of a sign leaves. -/
def RightOk (R : Nat) (a : Option Addr) (c : Nat) (ts : List Tk) (f g : Int) (n k' d q' q : Nat) (m : Int) (r : Rd) (w : World) (e : Ending) (w' : World) : Prop := Kept (· = R) w w' ∧
  ((∃ (e0 : Int) (p : Nat) (v : Int) (j : Nat), e = .returned (.tuple #[.int .i64 v, .int .i64 (j : Int)]) ∧ r = .inr (e0, p) ∧ e0 ≠ 0 ∧ CAt w' R a c ts e0 (placeOf ts p).1 (placeOf ts p).2 (d : Int) (q' : Int)) ∨
   (∃ (v m2 : Int) (j : Nat), e = .returned (.tuple #[.int .i64 v, .int .i64 (j : Int)]) ∧ IsI v ∧ (q' = 0 → v = m2) ∧ CAt w' R a c ts 0 f g (d : Int) (q' : Int) ∧ levelL (signAt ts j).toList < (n : Int) + 1 + 1 ∧ k' < j ∧ j ≤ ts.length ∧ NextR ts n m k' d q r m2 j))
theorem right_ok (R : Nat) (a : Option Addr) (c : Nat) (ts : List Tk) (f g : Int) (n k' d q' q : Nat) (m : Int) (r : Rd) (hk' : k' < ts.length) (hlv : levelL (signAt ts k').toList = (n : Int) + 1) (hrd : RD numL ts 2 ((n : Int) + 1) m k' d (q == 0) = r) (ha : (q' == 0) = ((q == 0) && asksL (signAt ts k').toList m)) (hLv : LevelRC R a c ts f g (n + 1) (k' + 1)) (hd : d ≤ 30) (hq : q' + (ts.length - (k' + 1)) ≤ 100000) (w : World) (h : CAt w R a c ts 0 f g (d : Int) (q' : Int)) :
    Calls Tryd.prog 32 #[.pointer (some ⟨R, 0, none⟩), .int .i64 ((n : Int) + 1), .int .i64 ((k' : Int) + 1)] w (RightOk R a c ts f g n k' d q' q m r w) := by
  have HA := hLv d q' w hd hq h
  push_cast at HA
  refine HA.mono ?_
  rintro e w' h'
  have hn0 : (0 : Int) ≤ (n : Int) := by omega
  have h1 : Ask ts 1 ((n : Int) + 1 + 1) (k' + 1) := ⟨by omega, .inl (by omega), by omega⟩
  rw [RD_signs numL (Int.le_add_of_nonneg_left hn0) (Nat.le_of_lt hk'), if_neg (by omega), hlv, ← ha] at hrd
  have hf := RD_fine numL 0 d (q' == 0) h1
  rcases hx : RD numL ts 1 ((n : Int) + 1 + 1) 0 (k' + 1) d (q' == 0) with ⟨m2, j⟩ | ⟨e0, p⟩
  · rw [hx] at h' hrd hf
    obtain ⟨hK, v, rfl, hI, hv, hc⟩ := h'
    obtain ⟨g1, _, g3⟩ := hf
    have hb := RD_behind numL (by omega) (by omega) d (q' == 0) m2 j hx
    have hj : k' < j := by
      rcases g1 with g1 | g1
      · exact absurd g1 (by decide)
      · omega
    refine ⟨hK, .inr ⟨v, m2, j, rfl, hI, fun h => hv (by omega), hc, hb, hj, g3, ?_⟩⟩
    dsimp only at hrd
    refine ⟨fun h1 h2 => ?_, fun h1 h2 => ?_, fun h1 => ?_⟩
    · subst h1
      rw [if_pos (by decide), if_pos h2] at hrd
      exact hrd
    · subst h1
      rw [if_pos (by decide), if_neg h2] at hrd
      exact hrd.symm
    · have hq0 : (q == 0) = false := by simpa using h1
      rw [hq0] at hrd ⊢
      simpa using hrd
  · rw [hx] at h' hrd
    obtain ⟨hK, v, j, rfl, _, he, hc⟩ := h'
    exact ⟨hK, .inl ⟨e0, p, v, j, rfl, hrd.symm, he, hc⟩⟩
end Go.Proofs.YtienjifhkmekcaaDoor
namespace Go.Proofs.YtienjifhkmekcaaDoor
open Go.RowKit Go.Shelf

/-- What holds ahead of each round of Level's loop: a value and the next token, from which on reading signs leads to r; or a fault, and it is r. -/
def LvlSt (R : Nat) (a : Option Addr) (c : Nat) (ts : List Tk) (f g : Int) (n k d q : Nat) (r : Rd) (w : World) (v : Int) (k' : Nat) (wr : World) : Prop :=
  Kept (· = R) w wr ∧ k < k' ∧ k' ≤ ts.length ∧ IsI v ∧
  ((CAt wr R a c ts 0 f g (d : Int) (q : Int) ∧ levelL (signAt ts k').toList < (n : Int) + 1 + 1 ∧ ∃ m, (q = 0 → v = m) ∧ RD numL ts 2 ((n : Int) + 1) m k' d (q == 0) = r) ∨
   (∃ e0 p, r = .inr (e0, p) ∧ e0 ≠ 0 ∧ CAt wr R a c ts e0 (placeOf ts p).1 (placeOf ts p).2 (d : Int) (q : Int)))

/-- The next round's state. -/
theorem lvl_next {R : Nat} {a : Option Addr} {c : Nat} {ts : List Tk} {f g : Int} {n k d q : Nat} {r : Rd} {w : World} {v' : Int} {k' j : Nat} {wr : World} (hK : Kept (· = R) w wr) (hk : k < k') (hj : k' < j) (hl : j ≤ ts.length) (hI : IsI v') (hc : CAt wr R a c ts 0 f g (d : Int) (q : Int)) (hlv : levelL (signAt ts j).toList < (n : Int) + 1 + 1) (h : ∃ m, (q = 0 → v' = m) ∧ RD numL ts 2 ((n : Int) + 1) m j d (q == 0) = r) : LvlSt R a c ts f g n k d q r w v' j wr :=
  ⟨hK, by omega, hl, hI, .inl ⟨hc, hlv, h⟩⟩
theorem lvl_wrong {R : Nat} {a : Option Addr} {c : Nat} {ts : List Tk} {f g : Int} {n k d q : Nat} {r : Rd} {w : World} {v' : Int} {k' j : Nat} {wr : World} (hK : Kept (· = R) w wr) (hk : k < k') (hj : k' < j) (hl : j ≤ ts.length) (hI : IsI v') (h : ∃ e0 p, r = .inr (e0, p) ∧ e0 ≠ 0 ∧ CAt wr R a c ts e0 (placeOf ts p).1 (placeOf ts p).2 (d : Int) (q : Int)) : LvlSt R a c ts f g n k d q r w v' j wr :=
  ⟨hK, by omega, hl, hI, .inr h⟩
theorem less_k {k' j n : Nat} (h1 : k' < j) (h2 : j ≤ n) : n + 1 - (intOf (.int .i64 (j : Int))).toNat < n + 1 - (intOf (.int .i64 (k' : Int))).toNat := by
  simp [intOf]; omega
theorem ask_skip (q : Nat) (b : Bool) (h : q = 0 → b = false) : ((q + 1) == 0) = ((q == 0) && b) := by
  by_cases hz : q = 0
  · rw [h hz]; simp
  · simp [hz]
theorem ask_go (q : Nat) (b : Bool) (h : q = 0 → b = true) : (q == 0) = ((q == 0) && b) := by
  by_cases hz : q = 0
  · rw [h hz]; simp
  · simp [hz]
theorem bound_q {q n k k' : Nat} (h : q + (n - k) ≤ 100000) (h1 : k < k') (h2 : k' < n) : q + 1 + (n - (k' + 1)) ≤ 100000 := by omega
theorem bound_r {q n k k' : Nat} (h : q + (n - k) ≤ 100000) (h1 : k < k') (h2 : k' < n) : q + (n - (k' + 1)) ≤ 100000 := by omega
theorem bound_p {q n k : Nat} (h : q + (n - k) ≤ 100000) : (q : Int) + 1 ≤ 9223372036854775807 := by omega
theorem asks_and (m : Int) : asksL [38, 38] m = !(m == 0) := rfl
theorem asks_or (m : Int) : asksL [124, 124] m = (m == 0) := rfl

theorem less_i {i n : Nat} (h : i < n) {x : Value} (hx : x = .int .i64 ((i : Int) + 1)) : n - (intOf x).toNat < n - (intOf (.int .i64 (i : Int))).toNat := by
  subst hx; simp [intOf]; omega
theorem ediv_isI (x c : Int) (hx : IsI x) (hc : 0 < c) : IsI (x / c) := by
  obtain ⟨h1, h2⟩ := hx
  constructor
  · rw [Int.le_ediv_iff_mul_le hc]; omega
  · have : x / c < 9223372036854775808 := by rw [Int.ediv_lt_iff_lt_mul hc]; omega
    omega
theorem tmod_isI (x y : Int) (hx : IsI x) : IsI (x.tmod y) := by
  obtain ⟨h1, h2⟩ := hx
  have k1 : (x.tmod y).natAbs ≤ x.natAbs := by rw [Int.natAbs_tmod]; exact Nat.mod_le _ _
  unfold IsI
  by_cases hs : 0 ≤ x
  · have := Int.tmod_nonneg y hs
    omega
  · have h3 := Int.tmod_nonneg y (by omega : 0 ≤ -x)
    rw [Int.neg_tmod] at h3
    omega
theorem bits_isI (l : List UInt8) (x y : Int) (hx : IsI x) : IsI (bitsL l x y) := by
  unfold bitsL
  repeat' split
  all_goals first | exact isI_bits _ _ _ | exact isI_wrap _ | exact tmod_isI _ _ hx | exact ediv_isI _ _ hx (by exact_mod_cast Nat.two_pow_pos _)
theorem reckon_isI (l : List UInt8) (x y : Int) (hx : IsI x) : IsI (reckonL l x y) := by
  unfold reckonL
  repeat' split
  all_goals first | exact isI_truth _ | exact bits_isI _ _ _ hx
/-- What Op leaves. -/
def OpOk (R : Nat) (a : Option Addr) (c : Nat) (ts : List Tk) (f g : Int) (d q : Nat) (s : List UInt8) (k' : Nat) (x y : Int) (w : World) (e : Ending) (w' : World) : Prop :=
  ∃ v', e = .returned (.int .i64 v') ∧ IsI v' ∧ Kept (· = R) w w' ∧ ((CAt w' R a c ts 0 f g (d : Int) (q : Int) ∧ (q = 0 → wrongL s y = 0 ∧ v' = reckonL s x y)) ∨ (q = 0 ∧ wrongL s y ≠ 0 ∧ CAt w' R a c ts (wrongL s y) (placeOf ts k').1 (placeOf ts k').2 (d : Int) (q : Int)))
theorem op_ok (R : Nat) (a : Option Addr) (c : Nat) (ts : List Tk) (f g : Int) (d q : Nat) (k' : Nat) (x y : Int) (t : Tk) (ht : ts[k']? = some t) (hs : t.text.data.toList ∈ opsR) (hx : IsI x) (hl : ts.length ≤ 3000) (w : World) (h : CAt w R a c ts 0 f g (d : Int) (q : Int)) :
    Calls Tryd.prog 51 #[.pointer (some ⟨R, 0, none⟩), .int .i64 (k' : Int), .int .i64 x, .int .i64 y] w (OpOk R a c ts f g d q t.text.data.toList k' x y w) := by
  by_cases hw : wrongL t.text.data.toList y = 0
  · refine (op_good R a c ts f g d q k' x y t ht hs hw hx w h).mono ?_
    rintro e w' ⟨rfl, hb⟩
    exact ⟨_, rfl, reckon_isI _ _ _ hx, kept_of_below hb, .inl ⟨h.below hb, fun _ => ⟨hw, rfl⟩⟩⟩
  · by_cases hq : q = 0
    · subst hq
      refine (op_wrong R a c ts f g d k' x y t ht hs hw hl w h).mono ?_
      rintro e w' ⟨rfl, hK, hc⟩
      exact ⟨_, rfl, ⟨by decide, by decide⟩, hK, .inr ⟨rfl, hw, hc⟩⟩
    · refine (op_idle R a c ts f g d q k' x y t ht hs hw (by rw [beq_eq_false_iff_ne]; omega) w h).mono ?_
      rintro e w' ⟨rfl, hw'⟩
      subst w'
      exact ⟨_, rfl, ⟨by decide, by decide⟩, Kept.refl _ _, .inl ⟨h, fun h0 => absurd h0 hq⟩⟩
/-- Behind Op. -/
theorem op_next {R : Nat} {a : Option Addr} {c : Nat} {ts : List Tk} {f g : Int} {n k d q : Nat} {r : Rd} {w : World} {v v2 v' m m2 : Int} {k' j : Nat} {w5 wr : World} {s : List UInt8} (hs : (signAt ts k').toList = s) (hK5 : Kept (· = R) w w5) (hk : k < k') (hj : k' < j) (hl : j ≤ ts.length) (hlv : levelL (signAt ts j).toList < (n : Int) + 1 + 1) (hvm : q = 0 → v = m) (hv2 : q = 0 → v2 = m2) (hN : NextR ts n m k' d q r m2 j) (hI : IsI v') (hK : Kept (· = R) w5 wr) (hc : (CAt wr R a c ts 0 f g (d : Int) (q : Int) ∧ (q = 0 → wrongL s v2 = 0 ∧ v' = reckonL s v v2)) ∨ (q = 0 ∧ wrongL s v2 ≠ 0 ∧ CAt wr R a c ts (wrongL s v2) (placeOf ts k').1 (placeOf ts k').2 (d : Int) (q : Int))) : LvlSt R a c ts f g n k d q r w v' j wr := by
  obtain ⟨N1, N2, N3⟩ := hN
  rw [hs] at N1 N2
  rcases hc with ⟨hc, hg⟩ | ⟨hq, hw, hc⟩
  · refine lvl_next (hK5.trans hK) hk hj hl hI hc hlv ?_
    by_cases hq : q = 0
    · obtain ⟨g1, g2⟩ := hg hq
      rw [hvm hq, hv2 hq] at g2
      rw [hv2 hq] at g1
      exact ⟨_, fun _ => g2, N1 hq g1⟩
    · exact ⟨m, fun h0 => absurd h0 hq, N3 hq⟩
  · rw [hv2 hq] at hw hc
    exact lvl_wrong (hK5.trans hK) hk hj hl hI ⟨_, _, N2 hq hw, hw, hc⟩
/-- Behind && and ||. -/
theorem bool_next {R : Nat} {a : Option Addr} {c : Nat} {ts : List Tk} {f g : Int} {n k d q : Nat} {r : Rd} {w : World} {v' m m2 : Int} {k' j : Nat} {wr : World} {s : List UInt8} (hs : (signAt ts k').toList = s) (hb : s = [38, 38] ∨ s = [124, 124]) (hk : k < k') (hj : k' < j) (hl : j ≤ ts.length) (hlv : levelL (signAt ts j).toList < (n : Int) + 1 + 1) (hN : NextR ts n m k' d q r m2 j) (hI : IsI v') (hK : Kept (· = R) w wr) (hc : CAt wr R a c ts 0 f g (d : Int) (q : Int)) (hv : q = 0 → v' = reckonL s m m2) : LvlSt R a c ts f g n k d q r w v' j wr := by
  obtain ⟨N1, N2, N3⟩ := hN
  rw [hs] at N1 N2
  refine lvl_next hK hk hj hl hI hc hlv ?_
  by_cases hq : q = 0
  · exact ⟨_, hv, N1 hq (by rcases hb with rfl | rfl <;> rfl)⟩
  · exact ⟨m, fun h0 => absurd h0 hq, N3 hq⟩

set_option maxRecDepth 100000 in
set_option maxHeartbeats 2000000 in
theorem level_good (R : Nat) (a : Option Addr) (c : Nat) (ts : List Tk) (f g : Int) (n k : Nat) (hn : n < 10) (hk : k ≤ ts.length) (hl : ts.length ≤ 3000) (hLv : ∀ j, k ≤ j → j ≤ ts.length → LevelRC R a c ts f g (n + 1) j) (d q : Nat) (n1 : Int) (k1 : Nat) (hr : RD numL ts 1 ((n : Int) + 1 + 1) 0 k d (q == 0) = .inl (n1, k1)) (w : World) (hd : d ≤ 30) (hq : q + (ts.length - k) ≤ 100000) (h : CAt w R a c ts 0 f g (d : Int) (q : Int)) (r : Rd) (hrr : RD numL ts 2 ((n : Int) + 1) n1 k1 d (q == 0) = r) :
    Calls Tryd.prog 32 #[.pointer (some ⟨R, 0, none⟩), .int .i64 (n : Int), .int .i64 (k : Int)] w (AnsOk R a c ts f g (d : Int) (q : Int) k w r) := by
  have HL := hid (levels_any w)
  have HA := hid (fun W (hW : Below w.heap.size w W) => hLv k (Nat.le_refl _) hk d q W hd hq (h.below hW))
  push_cast at HA
  rw [hr] at HA
  have hbe := RD_behind numL (by omega) hk d (q == 0) _ _ hr
  have hf := RD_fine numL 0 d (q == 0) (⟨hk, .inl (by omega), by decide⟩ : Ask ts 1 ((n : Int) + 1 + 1) k)
  rw [hr] at hf
  obtain ⟨f1, _, f3⟩ := hf
  have hk1 : k < k1 := f1.elim (fun h => absurd h (by decide)) id
  have hne : ((n : Int) == 10) = false := by rw [beq_eq_false_iff_ne]; omega
  have hnp : IntKind.i64.wrap ((n : Int) + 1) = (n : Int) + 1 := by rw [IntKind.wrap_i64]; omega
  have hnw : wrap64 ((n : Int) + 1) = (n : Int) + 1 := by unfold wrap64; omega
  have HLv := hid hLv
  have HQ := hid hq
  have hHL := hid hl
  have HRR := hid hrr
  clear h hLv hr f1 hrr hq hl
  go_enter Tryd.func32, Tryd.ntmps32
  go_wp2_with fail
  refine HL.out.mono ?_
  rintro e2 w2 ⟨B, rfl, _, hb1⟩
  have HB1 := hid hb1
  clear hb1 HL
  go_wp2_with fail
  refine (HA.out _ HB1.out).mono ?_
  rintro e3 w3 h3
  unfold AnsOk at h3
  dsimp only at h3
  obtain ⟨hk3, v, rfl, hI, hv, hc3⟩ := h3
  have HS : Hid (LvlSt R a c ts f g n k d q r w v k1 w3) := ⟨(kept_of_below HB1.out).trans hk3, hk1, f3, hI,   .inl ⟨hc3, hbe, n1, fun h => hv (by omega), HRR.out⟩⟩
  clear hk3 hc3 HA hv hI hk1 f3 HRR HB1 hbe
  go_wp2_with fail
  go_loopw [8, 9] (fun va vk wr => ∃ (v : Int) (k' : Nat), va = .int .i64 v ∧ vk = .int .i64 (k' : Int) ∧ Hid (LvlSt R a c ts f g n k d q r w v k' wr)) (fun _ vk _ => ts.length + 1 - (intOf vk).toNat)
  case atStart => exact ⟨v, k1, rfl, rfl, HS.out⟩
  case round =>
    clear HS
    obtain ⟨v, k', rfl, rfl, HS⟩ := hrel
    obtain ⟨hK, hlt, hle, hI, hg | hb⟩ := HS.out
    · obtain ⟨hc, hlv, m, hvm, hrd⟩ := hg
      obtain ⟨b0, b1, _⟩ := hc.facts
      obtain ⟨row, hrow⟩ := lvls_some n hn
      have HLV := hid (levels_any wr)
      have HK := hid hK
      have HC := hid hc
      have HVM := hid hvm
      have HRD := hid hrd
      have HROW := hid hrow
      have HLVL := hid hlv
      have hn0 : (0 : Int) ≤ (n : Int) := by omega
      have hn10 : (n : Int) < 10 := by omega
      clear hK hc hvm hrd HS hrow hlv
      go_wp2_with fail
      refine HLV.out.mono ?_
      rintro e4 w4 ⟨B, rfl, hLa, hb4⟩
      obtain ⟨b, cc, l1, l2⟩ := hLa n row HROW.out
      have HC4 := hid (HC.out.below hb4)
      have HK4 := hid (HK.out.trans (kept_of_below hb4))
      have HIs := hid (fun (s : ByteArray) (hs : s.size ≠ 0) => is_any R a c ts 0 f g (d : Int) (q : Int) k' s hs w4 HC4.out)
      obtain ⟨c0, c1, _⟩ := HC4.out.facts
      have HL2 := hid l2
      clear hb4 hLa HLV HK HC b0 b1 l2
      go_wp2_with fail
      go_loop [10, 45] (fun vh vi => ∃ i : Nat, vh = .bool ((row.take i).any fun s => (signAt ts k').toList == s.toList) ∧ vi = .int .i64 (i : Int) ∧ i ≤ row.length) (fun _ vi => row.length - (intOf vi).toNat)
      case atStart => exact ⟨0, rfl, rfl, Nat.zero_le _⟩
      case round =>
        obtain ⟨i, rfl, rfl, hi⟩ := hrel
        by_cases hir : i < row.length
        · have hcell := HL2.out i row[i] (List.getElem?_eq_getElem hir)
          have HFu := hid (lvls_full n row HROW.out row[i] (List.getElem_mem hir))
          have HT : Hid ((row.take (i + 1)).any (fun s => (signAt ts k').toList == s.toList) = ((row.take i).any (fun s => (signAt ts k').toList == s.toList) || (signAt ts k').toList == (row[i]).toList)) := by
            show _ = _
            rw [List.take_add_one, List.getElem?_eq_getElem hir, List.any_append]
            simp
          have hii : (i : Int) < (row.length : Int) := by omega
          have hi0 : (0 : Int) ≤ (i : Int) := by omega
          have hip := next_k (Nat.le_trans hi (lvls_few n row HROW.out))
          have hiw := next_w (Nat.le_trans hi (lvls_few n row HROW.out))
          generalize row[i] = s at hcell HFu HT
          rcases hx : (row.take i).any (fun s => (signAt ts k').toList == s.toList) with _ | _
          · rw [hx] at HT
            have HI := hid (HIs.out s HFu.out)
            clear hx HIs HFu
            go_wp2_with fail
            refine HI.out.mono ?_
            rintro e6 w6 ⟨rfl, hw6⟩
            subst w6
            go_wp2_with fail
            exact ⟨⟨i + 1, by rw [HT.out]; rfl, by go_num, hir⟩, less_i hir (by go_num)⟩
          · rw [hx] at HT
            clear hx HIs HFu
            go_wp2_with fail
            exact ⟨⟨i + 1, by rw [HT.out]; rfl, by go_num, hir⟩, less_i hir (by go_num)⟩
        · obtain rfl : i = row.length := by omega
          rw [List.take_length, hit_level _ n row HROW.out]
          have hii : ¬ ((row.length : Int) < (row.length : Int)) := by omega
          rcases hh : (levelL (signAt ts k').toList == (n : Int) + 1) with _ | _
          · have HH := hid hh
            clear hh
            go_wp2_with fail
            go_ret2
            rw [← HRD.out, RD_signs numL (Int.le_add_of_nonneg_left hn0) hle, if_pos (not_hit _ n HH.out HLVL.out)]
            exact ⟨HK4.out, v, rfl, hI, fun h => HVM.out (zero_q h), HC4.out⟩
          · as_aux_lemma =>
              have HH : Hid (levelL (signAt ts k').toList = (n : Int) + 1) := (by simpa using hh : levelL (signAt ts k').toList = (n : Int) + 1)
              obtain ⟨t, ht, hsx, hkl⟩ := sign_tok (ts := ts) (k := k') (by rw [HH.out]; omega)
              rcases HC4.out.toks with h0 | ⟨bb, off, rfl, hbb, hcx⟩
              · rw [h0] at hkl; exact absurd hkl (Nat.not_lt_zero _)
              have t1 := hcx k' t ht 1 _ rfl
              have hki : (k' : Int) < (ts.length : Int) := by omega
              have hk0 : (0 : Int) ≤ (k' : Int) := by omega
              have hkp := next_k (Nat.le_trans hle (Nat.le_trans hHL.out (by decide)))
              have hkw := next_w (Nat.le_trans hle (Nat.le_trans hHL.out (by decide)))
              have hqi := bound_p HQ.out
              have hq0 : (0 : Int) ≤ (q : Int) := by omega
              obtain ⟨_, _, _, _, _, c5⟩ := HC4.out.facts
              obtain ⟨_, _, _, _, z5⟩ := HC4.out.warm
              have HSX : Hid ((signAt ts k').toList = t.text.data.toList) := by show _ = _; rw [hsx, toList_data]
              have HO := hid (fun (x : Bool) (W : World) => rone_any x W)
              have hlo := level_ops _ (by rw [HH.out]; omega)
              rw [HSX.out] at hlo
              clear hh hcx hsx hbb HLVL HROW HL2
              rcases hlo with hA | hA | ⟨hop, hA, hO, hask⟩
              · as_aux_lemma =>
                  have tA : (t.text.toList == [38, 38]) = true := by rw [toList_data, hA]; rfl
                  have tO : (t.text.toList == [124, 124]) = false := by rw [toList_data, hA]; rfl
                  have HA := hid hA
                  clear hA
                  by_cases hv0 : v = 0
                  · subst hv0
                    have ASK : q = 0 → asksL (signAt ts k').toList m = false := fun h => by rw [HSX.out, HA.out, asks_and, ← HVM.out h]; rfl
                    have hc5 := HC4.out.idle ((q : Int) + 1)
                    have HR := hid (right_ok R _ c ts f g n k' d (q + 1) q m r hkl HH.out HRD.out (ask_skip q _ ASK) (HLv.out (k' + 1) (Nat.le_succ_of_le (Nat.le_of_lt hlt)) hkl) hd (bound_q HQ.out hlt hkl) (w4.setCell ⟨R, 5, none⟩ (.int .i64 ((q : Int) + 1))) (by push_cast; exact hc5))
                    have HK5 := hid (HK4.out.setCell (a := ⟨R, 5, none⟩) rfl (.int .i64 ((q : Int) + 1)))
                    clear hc5
                    clear ASK
                    go_wp2_with fail
                    refine HR.out.mono ?_
                    rintro e5 w5 ⟨hk5, hbad | hgood⟩
                    · obtain ⟨e0, p, v5, j, rfl, hrb, he, hc5⟩ := hbad
                      have HC5 := hid hc5
                      have HE := hid he
                      have HRB := hid hrb
                      have HK6 := hid (HK5.out.trans hk5)
                      have hb0 : (e0 == 0) = false := by rw [beq_eq_false_iff_ne]; exact he
                      have hb1 : (e0 != 0) = true := by simpa using he
                      obtain ⟨_, y1, _, _, _, y5⟩ := HC5.out.facts
                      obtain ⟨_, _, _, _, x5⟩ := HC5.out.warm
                      have HC6 := hid (HC5.out.idle (q : Int))
                      have HK7 := hid (HK6.out.setCell (a := ⟨R, 5, none⟩) rfl (.int .i64 (q : Int)))
                      obtain ⟨_, z1, _, _, _, _⟩ := HC6.out.facts
                      push_cast at y5
                      clear hc5 he hrb hk5 HR HLv HK5 c0 c1 HIs HRD
                      go_wp2_with fail
                      go_ret2
                      rw [HRB.out]
                      exact ⟨HK7.out, _, k', rfl, bound_d hle hk, HE.out, HC6.out⟩
                    · obtain ⟨v5, m2, j, rfl, hI5, hv5, hc5, hlv5, hj5, hjl, hN⟩ := hgood
                      have HC5 := hid hc5
                      have HN := hid hN
                      have HK6 := hid (HK5.out.trans hk5)
                      have HV5 := hid hv5
                      have HLV5 := hid hlv5
                      have HJ := hid (And.intro hj5 hjl)
                      obtain ⟨_, y1, _, _, _, y5⟩ := HC5.out.facts
                      obtain ⟨_, _, _, _, x5⟩ := HC5.out.warm
                      have HC6 := hid (HC5.out.idle (q : Int))
                      have HK7 := hid (HK6.out.setCell (a := ⟨R, 5, none⟩) rfl (.int .i64 (q : Int)))
                      obtain ⟨_, z1, _, _, _, _⟩ := HC6.out.facts
                      push_cast at y5
                      clear hc5 hN hv5 hk5 hlv5 hj5 hjl HR HLv HK5 c0 c1 HIs HRD HK6 HC5 HK4 HC4
                      go_wp2_with fail
                      refine (HO.out _ _).mono ?_
                      rintro e8 w8 ⟨rfl, hw8⟩
                      subst w8
                      go_wp2_with fail
                      exact ⟨⟨_, j, rfl, rfl, hid (bool_next HSX.out (.inl HA.out) hlt HJ.out.1 HJ.out.2 HLV5.out HN.out (isI_truth _) HK7.out HC6.out (fun h => by rw [HA.out, ← HVM.out h]; rfl))⟩, less_k HJ.out.1 HJ.out.2⟩
                  · have hvb : (v == 0) = false := by simpa using hv0
                    have hvn : (v != 0) = true := by simpa using hv0
                    have HV0 := hid hv0
                    clear hv0
                    have ASK : q = 0 → asksL (signAt ts k').toList m = true := fun h => by rw [HSX.out, HA.out, asks_and, ← HVM.out h, hvb]; rfl
                    have HR := hid (right_ok R _ c ts f g n k' d q q m r hkl HH.out HRD.out (ask_go q _ ASK) (HLv.out (k' + 1) (Nat.le_succ_of_le (Nat.le_of_lt hlt)) hkl) hd (bound_r HQ.out hlt hkl) w4 HC4.out)
                    have HK5 := HK4
                    clear ASK
                    go_wp2_with fail
                    refine HR.out.mono ?_
                    rintro e5 w5 ⟨hk5, hbad | hgood⟩
                    · obtain ⟨e0, p, v5, j, rfl, hrb, he, hc5⟩ := hbad
                      have HC5 := hid hc5
                      have HE := hid he
                      have HRB := hid hrb
                      have HK6 := hid (HK5.out.trans hk5)
                      have hb0 : (e0 == 0) = false := by rw [beq_eq_false_iff_ne]; exact he
                      have hb1 : (e0 != 0) = true := by simpa using he
                      have HC6 := HC5
                      have HK7 := HK6
                      obtain ⟨_, y1, _, _, _, y5⟩ := HC5.out.facts
                      clear hc5 he hrb hk5 HR HLv HK5 c0 c1 HIs HRD
                      go_wp2_with fail
                      go_ret2
                      rw [HRB.out]
                      exact ⟨HK7.out, _, k', rfl, bound_d hle hk, HE.out, HC6.out⟩
                    · obtain ⟨v5, m2, j, rfl, hI5, hv5, hc5, hlv5, hj5, hjl, hN⟩ := hgood
                      have HC5 := hid hc5
                      have HN := hid hN
                      have HK6 := hid (HK5.out.trans hk5)
                      have HV5 := hid hv5
                      have HLV5 := hid hlv5
                      have HJ := hid (And.intro hj5 hjl)
                      have HC6 := HC5
                      have HK7 := HK6
                      obtain ⟨_, y1, _, _, _, y5⟩ := HC5.out.facts
                      clear hc5 hN hv5 hk5 hlv5 hj5 hjl HR HLv HK5 c0 c1 HIs HRD HK6 HC5
                      by_cases h50 : v5 = 0
                      · subst h50
                        go_wp2_with fail
                        refine (HO.out _ _).mono ?_
                        rintro e8 w8 ⟨rfl, hw8⟩
                        subst w8
                        go_wp2_with fail
                        exact ⟨⟨_, j, rfl, rfl, hid (bool_next HSX.out (.inl HA.out) hlt HJ.out.1 HJ.out.2 HLV5.out HN.out (isI_truth _) HK7.out HC6.out (fun h => by rw [HA.out, ← HVM.out h, ← HV5.out h]; unfold reckonL; simp))⟩, less_k HJ.out.1 HJ.out.2⟩
                      · have hwb : (v5 == 0) = false := by simpa using h50
                        have hwn : (v5 != 0) = true := by simpa using h50
                        clear h50
                        go_wp2_with fail
                        refine (HO.out _ _).mono ?_
                        rintro e8 w8 ⟨rfl, hw8⟩
                        subst w8
                        go_wp2_with fail
                        exact ⟨⟨_, j, rfl, rfl, hid (bool_next HSX.out (.inl HA.out) hlt HJ.out.1 HJ.out.2 HLV5.out HN.out (isI_truth _) HK7.out HC6.out (fun h => by rw [HA.out, ← HVM.out h, ← HV5.out h]; unfold reckonL; simp [hvb, hwb]))⟩, less_k HJ.out.1 HJ.out.2⟩
              · as_aux_lemma =>
                  have tA : (t.text.toList == [38, 38]) = false := by rw [toList_data, hA]; rfl
                  have tO : (t.text.toList == [124, 124]) = true := by rw [toList_data, hA]; rfl
                  have HA := hid hA
                  clear hA
                  by_cases hv0 : v = 0
                  · subst hv0
                    have ASK : q = 0 → asksL (signAt ts k').toList m = true := fun h => by rw [HSX.out, HA.out, asks_or, ← HVM.out h]; rfl
                    have HR := hid (right_ok R _ c ts f g n k' d q q m r hkl HH.out HRD.out (ask_go q _ ASK) (HLv.out (k' + 1) (Nat.le_succ_of_le (Nat.le_of_lt hlt)) hkl) hd (bound_r HQ.out hlt hkl) w4 HC4.out)
                    have HK5 := HK4
                    clear ASK
                    go_wp2_with fail
                    refine HR.out.mono ?_
                    rintro e5 w5 ⟨hk5, hbad | hgood⟩
                    · obtain ⟨e0, p, v5, j, rfl, hrb, he, hc5⟩ := hbad
                      have HC5 := hid hc5
                      have HE := hid he
                      have HRB := hid hrb
                      have HK6 := hid (HK5.out.trans hk5)
                      have hb0 : (e0 == 0) = false := by rw [beq_eq_false_iff_ne]; exact he
                      have hb1 : (e0 != 0) = true := by simpa using he
                      have HC6 := HC5
                      have HK7 := HK6
                      obtain ⟨_, y1, _, _, _, y5⟩ := HC5.out.facts
                      clear hc5 he hrb hk5 HR HLv HK5 c0 c1 HIs HRD
                      go_wp2_with fail
                      go_ret2
                      rw [HRB.out]
                      exact ⟨HK7.out, _, k', rfl, bound_d hle hk, HE.out, HC6.out⟩
                    · obtain ⟨v5, m2, j, rfl, hI5, hv5, hc5, hlv5, hj5, hjl, hN⟩ := hgood
                      have HC5 := hid hc5
                      have HN := hid hN
                      have HK6 := hid (HK5.out.trans hk5)
                      have HV5 := hid hv5
                      have HLV5 := hid hlv5
                      have HJ := hid (And.intro hj5 hjl)
                      have HC6 := HC5
                      have HK7 := HK6
                      obtain ⟨_, y1, _, _, _, y5⟩ := HC5.out.facts
                      clear hc5 hN hv5 hk5 hlv5 hj5 hjl HR HLv HK5 c0 c1 HIs HRD HK6 HC5
                      by_cases h50 : v5 = 0
                      · subst h50
                        go_wp2_with fail
                        refine (HO.out _ _).mono ?_
                        rintro e8 w8 ⟨rfl, hw8⟩
                        subst w8
                        go_wp2_with fail
                        exact ⟨⟨_, j, rfl, rfl, hid (bool_next HSX.out (.inr HA.out) hlt HJ.out.1 HJ.out.2 HLV5.out HN.out (isI_truth _) HK7.out HC6.out (fun h => by rw [HA.out, ← HVM.out h, ← HV5.out h]; unfold reckonL; simp))⟩, less_k HJ.out.1 HJ.out.2⟩
                      · have hwb : (v5 == 0) = false := by simpa using h50
                        have hwn : (v5 != 0) = true := by simpa using h50
                        clear h50
                        go_wp2_with fail
                        refine (HO.out _ _).mono ?_
                        rintro e8 w8 ⟨rfl, hw8⟩
                        subst w8
                        go_wp2_with fail
                        exact ⟨⟨_, j, rfl, rfl, hid (bool_next HSX.out (.inr HA.out) hlt HJ.out.1 HJ.out.2 HLV5.out HN.out (isI_truth _) HK7.out HC6.out (fun h => by rw [HA.out, ← HVM.out h, ← HV5.out h]; unfold reckonL; simp [hwb]))⟩, less_k HJ.out.1 HJ.out.2⟩
                  · have hvb : (v == 0) = false := by simpa using hv0
                    have hvn : (v != 0) = true := by simpa using hv0
                    have HV0 := hid hv0
                    clear hv0
                    have ASK : q = 0 → asksL (signAt ts k').toList m = false := fun h => by rw [HSX.out, HA.out, asks_or, ← HVM.out h, hvb]
                    have hc5 := HC4.out.idle ((q : Int) + 1)
                    have HR := hid (right_ok R _ c ts f g n k' d (q + 1) q m r hkl HH.out HRD.out (ask_skip q _ ASK) (HLv.out (k' + 1) (Nat.le_succ_of_le (Nat.le_of_lt hlt)) hkl) hd (bound_q HQ.out hlt hkl) (w4.setCell ⟨R, 5, none⟩ (.int .i64 ((q : Int) + 1))) (by push_cast; exact hc5))
                    have HK5 := hid (HK4.out.setCell (a := ⟨R, 5, none⟩) rfl (.int .i64 ((q : Int) + 1)))
                    clear hc5
                    clear ASK
                    go_wp2_with fail
                    refine HR.out.mono ?_
                    rintro e5 w5 ⟨hk5, hbad | hgood⟩
                    · obtain ⟨e0, p, v5, j, rfl, hrb, he, hc5⟩ := hbad
                      have HC5 := hid hc5
                      have HE := hid he
                      have HRB := hid hrb
                      have HK6 := hid (HK5.out.trans hk5)
                      have hb0 : (e0 == 0) = false := by rw [beq_eq_false_iff_ne]; exact he
                      have hb1 : (e0 != 0) = true := by simpa using he
                      obtain ⟨_, y1, _, _, _, y5⟩ := HC5.out.facts
                      obtain ⟨_, _, _, _, x5⟩ := HC5.out.warm
                      have HC6 := hid (HC5.out.idle (q : Int))
                      have HK7 := hid (HK6.out.setCell (a := ⟨R, 5, none⟩) rfl (.int .i64 (q : Int)))
                      obtain ⟨_, z1, _, _, _, _⟩ := HC6.out.facts
                      push_cast at y5
                      clear hc5 he hrb hk5 HR HLv HK5 c0 c1 HIs HRD
                      go_wp2_with fail
                      go_ret2
                      rw [HRB.out]
                      exact ⟨HK7.out, _, k', rfl, bound_d hle hk, HE.out, HC6.out⟩
                    · obtain ⟨v5, m2, j, rfl, hI5, hv5, hc5, hlv5, hj5, hjl, hN⟩ := hgood
                      have HC5 := hid hc5
                      have HN := hid hN
                      have HK6 := hid (HK5.out.trans hk5)
                      have HV5 := hid hv5
                      have HLV5 := hid hlv5
                      have HJ := hid (And.intro hj5 hjl)
                      obtain ⟨_, y1, _, _, _, y5⟩ := HC5.out.facts
                      obtain ⟨_, _, _, _, x5⟩ := HC5.out.warm
                      have HC6 := hid (HC5.out.idle (q : Int))
                      have HK7 := hid (HK6.out.setCell (a := ⟨R, 5, none⟩) rfl (.int .i64 (q : Int)))
                      obtain ⟨_, z1, _, _, _, _⟩ := HC6.out.facts
                      push_cast at y5
                      clear hc5 hN hv5 hk5 hlv5 hj5 hjl HR HLv HK5 c0 c1 HIs HRD HK6 HC5 HK4 HC4
                      go_wp2_with fail
                      refine (HO.out _ _).mono ?_
                      rintro e8 w8 ⟨rfl, hw8⟩
                      subst w8
                      go_wp2_with fail
                      exact ⟨⟨_, j, rfl, rfl, hid (bool_next HSX.out (.inr HA.out) hlt HJ.out.1 HJ.out.2 HLV5.out HN.out (isI_truth _) HK7.out HC6.out (fun h => by rw [HA.out, ← HVM.out h]; unfold reckonL; simp [hvb]))⟩, less_k HJ.out.1 HJ.out.2⟩
              · as_aux_lemma =>
                  have tA : (t.text.toList == [38, 38]) = false := by rw [toList_data, hA]
                  have tO : (t.text.toList == [124, 124]) = false := by rw [toList_data, hO]
                  have ht := ht
                  have ASK : q = 0 → asksL (signAt ts k').toList m = true := fun h => by rw [HSX.out]; exact hask m
                  have HR := hid (right_ok R _ c ts f g n k' d q q m r hkl HH.out HRD.out (ask_go q _ ASK) (HLv.out (k' + 1) (Nat.le_succ_of_le (Nat.le_of_lt hlt)) hkl) hd (bound_r HQ.out hlt hkl) w4 HC4.out)
                  have HK5 := HK4
                  clear ASK
                  go_wp2_with fail
                  refine HR.out.mono ?_
                  rintro e5 w5 ⟨hk5, hbad | hgood⟩
                  · obtain ⟨e0, p, v5, j, rfl, hrb, he, hc5⟩ := hbad
                    have HC5 := hid hc5
                    have HE := hid he
                    have HRB := hid hrb
                    have HK6 := hid (HK5.out.trans hk5)
                    have hb0 : (e0 == 0) = false := by rw [beq_eq_false_iff_ne]; exact he
                    have hb1 : (e0 != 0) = true := by simpa using he
                    have HC6 := HC5
                    have HK7 := HK6
                    obtain ⟨_, y1, _, _, _, y5⟩ := HC5.out.facts
                    clear hc5 he hrb hk5 HR HLv HK5 c0 c1 HIs HRD
                    go_wp2_with fail
                    go_ret2
                    rw [HRB.out]
                    exact ⟨HK7.out, _, k', rfl, bound_d hle hk, HE.out, HC6.out⟩
                  · obtain ⟨v5, m2, j, rfl, hI5, hv5, hc5, hlv5, hj5, hjl, hN⟩ := hgood
                    have HC5 := hid hc5
                    have HN := hid hN
                    have HK6 := hid (HK5.out.trans hk5)
                    have HV5 := hid hv5
                    have HLV5 := hid hlv5
                    have HJ := hid (And.intro hj5 hjl)
                    have HC6 := HC5
                    have HK7 := HK6
                    obtain ⟨_, y1, _, _, _, y5⟩ := HC5.out.facts
                    clear hc5 hN hv5 hk5 hlv5 hj5 hjl HR HLv HK5 c0 c1 HIs HRD HK6 HC5
                    have HOP := hid (op_ok R _ c ts f g d q k' v v5 t ht hop hI hHL.out _ HC6.out)
                    go_wp2_with fail
                    refine HOP.out.mono ?_
                    rintro e8 w8 ⟨v8, rfl, hI8, hk8, hc8⟩
                    have HC8 := hid hc8
                    have HK8 := hid hk8
                    clear hc8 hk8 HOP
                    go_wp2_with fail
                    exact ⟨⟨_, j, rfl, rfl, hid (op_next HSX.out HK7.out hlt HJ.out.1 HJ.out.2 HLV5.out HVM.out (fun h => HV5.out h) HN.out hI8 HK8.out HC8.out)⟩, less_k HJ.out.1 HJ.out.2⟩
    · obtain ⟨e0, p, hrb, he, hc⟩ := hb
      obtain ⟨b0, b1, _⟩ := hc.facts
      have hb : (e0 == 0) = false := by rw [beq_eq_false_iff_ne]; exact he
      have HK := hid hK
      have HC := hid hc
      have HE := hid he
      have HR := hid hrb
      clear hK hc he hrb HS HLv
      go_wp2_with fail
      go_ret2
      rw [HR.out]
      exact ⟨HK.out, v, k', rfl, bound_d hle hk, HE.out, HC.out⟩

end Go.Proofs.YtienjifhkmekcaaDoor
namespace Go.Proofs.YtienjifhkmekcaaDoor
open Go.RowKit Go.Shelf

theorem level_step (R : Nat) (a : Option Addr) (c : Nat) (ts : List Tk) (f g : Int) (hl : ts.length ≤ 3000) : LevelStepC R a c ts f g := by
  intro n k hn hk hLv d q w hd hq h
  have hr : RD numL ts 1 ((n : Int) + 1) 0 k d (q == 0) = _ := RD_level numL (by omega) hk d (q == 0)
  rcases hx : RD numL ts 1 ((n : Int) + 1 + 1) 0 k d (q == 0) with ⟨n1, k1⟩ | ⟨e1, p1⟩
  · rw [hx] at hr
    rw [hr]
    exact level_good R a c ts f g n k hn hk hl hLv d q n1 k1 hx w hd hq h _ rfl
  · rw [hx] at hr
    rw [hr]
    exact level_left_bad R a c ts f g n k hn (hLv k (Nat.le_refl _) hk) d q e1 p1 hx w hd hq h

/-- The document's own Eval, at whatever tokens: evalL numL. -/
theorem REval_any (a : Option Addr) (c : Nat) (ts : List Tk) (w : World) (hT : TAt w a ts) (hl : ts.length ≤ 3000) (hts : Texts ts) :
    Calls Tryd.prog 6 #[.slice a ts.length c] w fun e w' => e = .returned (.tuple #[.int .i64 (evalL numL ts).1, .agg #[.int .i64 (evalL numL ts).2.1, .int .i64 (evalL numL ts).2.2.1, .int .i64 (evalL numL ts).2.2.2]]) ∧ Below w.heap.size w w' :=
  REval_of a c ts w hT hl (fun R => (all_read R a c ts (-1) 0 hl hts (level_step R a c ts (-1) 0 hl) _ 0 rfl (Nat.zero_le _)).2.2)
end Go.Proofs.YtienjifhkmekcaaDoor
