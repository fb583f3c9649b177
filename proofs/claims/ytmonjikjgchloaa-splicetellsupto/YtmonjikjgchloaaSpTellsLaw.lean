/- The statement SpliceTells: at every text and every number it returns true. -/
import Derived.Test.YtmonjikjgchloaaSpRef
namespace Go.Proofs.Ytmonjikjgchloaa
open Go.RowKit Go.Shelf

theorem two_boxes (w : World) (a b c d : Value) (T U : TypeId) : Below w.heap.size w ((w.alloc (.cells #[a, b] T)).alloc (.cells #[c, d] U)) ∧ ((w.alloc (.cells #[a, b] T)).alloc (.cells #[c, d] U)).cell? ⟨w.heap.size, 0, none⟩ = some a ∧ ((w.alloc (.cells #[a, b] T)).alloc (.cells #[c, d] U)).cell? ⟨w.heap.size, 1, none⟩ = some b ∧
    ((w.alloc (.cells #[a, b] T)).alloc (.cells #[c, d] U)).cell? ⟨w.heap.size + 1, 0, none⟩ = some c ∧ ((w.alloc (.cells #[a, b] T)).alloc (.cells #[c, d] U)).cell? ⟨w.heap.size + 1, 1, none⟩ = some d ∧ w.heap.size + 1 < ((w.alloc (.cells #[a, b] T)).alloc (.cells #[c, d] U)).heap.size := by
  have h1 := after_box (Below.refl _ (w.alloc (.cells #[a, b] T)) |>.alloc (Nat.le_refl _) (.cells #[c, d] U))
  have e : w.heap.size + 1 = (w.alloc (.cells #[a, b] T)).heap.size := by simp
  refine ⟨h1.1, h1.2.1, h1.2.2.1, ?_, ?_, by simp⟩
  · rw [e, World.cell?_alloc_mark]; rfl
  · rw [e, World.cell?_alloc_mark]; rfl

/-- The last of the numbers that were at least k, going back to place j: the first one from there. -/
def BackAt (A : List Nat) (k : Int) (j : Nat) (m : Int) : Prop :=
  (∃ (q : Nat) (h : q < A.length), m = (q : Int) ∧ j ≤ q ∧ k ≤ (A[q] : Int) ∧ ∀ i (hi : i < q), j ≤ i → ¬ k ≤ ((A[i]'(by omega)) : Int)) ∨ (m = -1 ∧ ∀ i (h : i < A.length), j ≤ i → ¬ k ≤ (A[i] : Int))

theorem back_step (A : List Nat) (k : Int) (q : Nat) (m : Int) (hq : q < A.length) (h : BackAt A k (q + 1) m) : (k ≤ (A[q] : Int) → BackAt A k q (q : Int)) ∧ (¬ k ≤ (A[q] : Int) → BackAt A k q m) := by
  refine ⟨fun hk => .inl ⟨q, hq, rfl, Nat.le_refl _, hk, fun i hi hji => by omega⟩, fun hk => ?_⟩
  rcases h with ⟨p, hp, rfl, h1, h2, h3⟩ | ⟨rfl, h1⟩
  · refine .inl ⟨p, hp, rfl, by omega, h2, fun i hi hji => ?_⟩
    by_cases hiq : i = q
    · subst hiq; exact hk
    · exact h3 i hi (by omega)
  · refine .inr ⟨rfl, fun i hi hji => ?_⟩
    by_cases hiq : i = q
    · subst hiq; exact hk
    · exact h1 i hi (by omega)

theorem BackAt.done {A : List Nat} {k m : Int} (h : BackAt A k 0 m) : m = firstGe A k := by
  rcases h with ⟨p, hp, rfl, h1, h2, h3⟩ | ⟨rfl, h1⟩
  · exact firstGe_hit A k p hp h2 (fun i hi => h3 i hi (Nat.zero_le _))
  · exact firstGe_miss A k (fun i hi => h1 i hi (Nat.zero_le _))

set_option maxRecDepth 100000 in
set_option maxHeartbeats 4000000 in
theorem Tells_walk (s : ByteArray) (k : Int) (w : World) (hs : s.size ≤ 1048576) :
    Calls Try.prog 3 #[.string s, .int .i64 k] w fun e w' => e = .returned (.bool true) ∧ Below w.heap.size w w' := by
  have hfew : (textB s).size ≤ s.size := by rw [textB_size, ← size_data]; exact kept_few _
  have HT := hid (fun w => Text_any s w hs)
  have HRf := hid (fun w => RSplice_any s w hs)
  have HL := hid (atL_length s.data.toList)
  change Hid (∀ w, Calls Try.prog 5 #[.string s] w fun e w' => ∃ b c, e = .returned (.agg #[.string (textB s), .slice (some ⟨b, 0, none⟩) ((kept s.data.toList).length + 1) c]) ∧ IAt w' b (kept s.data.toList ++ [s.size]) ∧ Below w.heap.size w w') at HT
  rw [← size_data s] at HT
  change Hid (∀ w, Calls Try.prog 5 #[.string s] w fun e w' => ∃ b c, e = .returned (.agg #[.string (textB s), .slice (some ⟨b, 0, none⟩) ((kept s.data.toList).length + 1) c]) ∧ IAt w' b (atL s.data.toList) ∧ Below w.heap.size w w') at HT
  have hA : (atL s.data.toList).length ≤ 1048577 := by rw [HL.out]; have := kept_few s.data.toList; rw [size_data] at this; omega
  rw [← HL.out] at HT HRf
  have HLi := hid (fun w => Lines_any s k w hs)
  have HLn := hid (fun w => Line_any s k w hs)
  generalize atL s.data.toList = A at *
  generalize textB s = T at *
  generalize linesI s.data.toList k = li at *
  clear HL
  go_enter Try.func3, Try.ntmps3
  go_wp2_with fail
  refine (HT.out w).mono ?_
  rintro e w1 ⟨b, c, rfl, hI, hb1⟩
  have HI1 := hid hI
  have HB1 := hid hb1
  clear hI hb1
  go_wp2_with fail
  refine (HRf.out w1).mono ?_
  rintro e w2 ⟨b2, c2, rfl, hI2, hb2⟩
  have HI := hid (HI1.out.below hb2)
  have HI2 := hid hI2
  have HB2 := hid (HB1.out.trans (hb2.mono HB1.out.size))
  clear hI2 hb2 HI1 HB1 HT HRf
  go_wp2_with fail
  have HX := hid (two_boxes w2 (.string T) (.slice (some ⟨b, 0, none⟩) A.length c) (.string T) (.slice (some ⟨b2, 0, none⟩) A.length c2) 24 24)
  generalize (w2.alloc (Obj.cells #[Value.string T, Value.slice (some ⟨b, 0, none⟩) A.length c] 24)).alloc (Obj.cells #[Value.string T, Value.slice (some ⟨b2, 0, none⟩) A.length c2] 24) = w3 at HX ⊢
  obtain ⟨_, hx0, hx1, hy0, hy1, hxs⟩ := HX.out
  refine (HLi.out w3).mono ?_
  rintro e w' ⟨rfl, hww⟩
  subst w'
  have HWh := hid (fun W (h : Below w2.heap.size w2 W) => Where_any T b c A k W (HI.out.below h))
  have HBk := hid (fun W (h : Below w2.heap.size w2 W) => Back_any T b c A k W (HI.out.below h) (by omega))
  by_cases hk0 : k < 0
  · rw [← whereI_out A k (.inl hk0)] at HWh
    rw [show backI A k = -1 by simp [backI, hk0]] at HBk
    go_wp2_with (go_at_call 8; refine (HLn.out w3).mono ?_; rintro e w' ⟨rfl, hww⟩; subst w')
    go_loop [8, 9] (fun bv x => bv = .int .i64 (-1) ∧ x = .int .i64 ((A.length : Int) - 1)) (fun _ _ => 0)
    case atStart => exact ⟨rfl, by go_num⟩
    case round =>
      obtain ⟨rfl, rfl⟩ := hrel
      by_cases hl0 : 0 < A.length
      · have hl1 : (0 : Int) ≤ (A.length : Int) - 1 := by omega
        go_wp2_with fail
        go_loopw [75] (fun x wr => ∃ j : Nat, j ≤ A.length ∧ x = .int .i64 j ∧ Hid (Below w3.heap.size w3 wr)) (fun x _ => A.length - (intOf x).toNat)
        case atStart => exact ⟨0, Nat.zero_le _, rfl, Below.refl _ _⟩
        case round =>
          obtain ⟨j, hj, rfl, HB⟩ := hrel
          have gx0 := (HB.out.cell (p := ⟨w2.heap.size, 0, none⟩) (by show w2.heap.size < _; omega)).trans hx0
          have gx1 := (HB.out.cell (p := ⟨w2.heap.size, 1, none⟩) (by show w2.heap.size < _; omega)).trans hx1
          have gy0 := (HB.out.cell (p := ⟨w2.heap.size + 1, 0, none⟩) (by show w2.heap.size + 1 < _; omega)).trans hy0
          have gy1 := (HB.out.cell (p := ⟨w2.heap.size + 1, 1, none⟩) (by show w2.heap.size + 1 < _; omega)).trans hy1
          by_cases hlt : j < A.length
          · have hcx := ((HI.out.below HX.out.1).below HB.out).cell (List.getElem?_eq_getElem hlt)
            have hcy := ((HI2.out.below HX.out.1).below HB.out).cell (List.getElem?_eq_getElem hlt)
            generalize A[j] = y at hcx hcy
            go_wp2_with fail
            go_quiet (fail)
            go_wp2
            go_roundw
            case rel => exact ⟨j + 1, by omega, by go_num, below_drewN HB.out _⟩
            case measure => simp [intOf]; omega
          · have HBw := hid (HX.out.1.trans (HB.out.mono HX.out.1.size))
            have hws : w2.heap.size < wr.heap.size := by have := HB.out.size; omega
            go_wp2_with fail
            refine (HWh.out wr HBw.out).mono ?_
            rintro e w4 ⟨rfl, hb4⟩
            have kx0 := (hb4.cell (p := ⟨w2.heap.size, 0, none⟩) hws).trans gx0
            have kx1 := (hb4.cell (p := ⟨w2.heap.size, 1, none⟩) hws).trans gx1
            have HB4 := hid (HBw.out.trans (hb4.mono HBw.out.size))
            clear hb4 gx0 gx1 gy0 gy1
            go_wp2_with fail
            refine (HBk.out w4 HB4.out).mono ?_
            rintro e w5 ⟨rfl, hb5⟩
            have HB5 := hid (HB4.out.trans (hb5.mono HB4.out.size))
            clear hb5
            go_wp2_with fail
            go_ret
            exact ⟨by simp, HB2.out.trans (HB5.out.mono HB2.out.size)⟩
      · have hl1 : (A.length : Int) - 1 < 0 := by omega
        go_wp2_with fail
        go_loopw [75] (fun x wr => ∃ j : Nat, j ≤ A.length ∧ x = .int .i64 j ∧ Hid (Below w3.heap.size w3 wr)) (fun x _ => A.length - (intOf x).toNat)
        case atStart => exact ⟨0, Nat.zero_le _, rfl, Below.refl _ _⟩
        case round =>
          obtain ⟨j, hj, rfl, HB⟩ := hrel
          have gx0 := (HB.out.cell (p := ⟨w2.heap.size, 0, none⟩) (by show w2.heap.size < _; omega)).trans hx0
          have gx1 := (HB.out.cell (p := ⟨w2.heap.size, 1, none⟩) (by show w2.heap.size < _; omega)).trans hx1
          have gy0 := (HB.out.cell (p := ⟨w2.heap.size + 1, 0, none⟩) (by show w2.heap.size + 1 < _; omega)).trans hy0
          have gy1 := (HB.out.cell (p := ⟨w2.heap.size + 1, 1, none⟩) (by show w2.heap.size + 1 < _; omega)).trans hy1
          by_cases hlt : j < A.length
          · have hcx := ((HI.out.below HX.out.1).below HB.out).cell (List.getElem?_eq_getElem hlt)
            have hcy := ((HI2.out.below HX.out.1).below HB.out).cell (List.getElem?_eq_getElem hlt)
            generalize A[j] = y at hcx hcy
            go_wp2_with fail
            go_quiet (fail)
            go_wp2
            go_roundw
            case rel => exact ⟨j + 1, by omega, by go_num, below_drewN HB.out _⟩
            case measure => simp [intOf]; omega
          · have HBw := hid (HX.out.1.trans (HB.out.mono HX.out.1.size))
            have hws : w2.heap.size < wr.heap.size := by have := HB.out.size; omega
            go_wp2_with fail
            refine (HWh.out wr HBw.out).mono ?_
            rintro e w4 ⟨rfl, hb4⟩
            have kx0 := (hb4.cell (p := ⟨w2.heap.size, 0, none⟩) hws).trans gx0
            have kx1 := (hb4.cell (p := ⟨w2.heap.size, 1, none⟩) hws).trans gx1
            have HB4 := hid (HBw.out.trans (hb4.mono HBw.out.size))
            clear hb4 gx0 gx1 gy0 gy1
            go_wp2_with fail
            refine (HBk.out w4 HB4.out).mono ?_
            rintro e w5 ⟨rfl, hb5⟩
            have HB5 := hid (HB4.out.trans (hb5.mono HB4.out.size))
            clear hb5
            go_wp2_with fail
            go_ret
            exact ⟨by simp, HB2.out.trans (HB5.out.mono HB2.out.size)⟩
  rw [show backI A k = firstGe A k by simp [backI, hk0]] at HBk
  have hk1 : 0 ≤ k := by omega
  clear hk0
  by_cases hk2 : (A.length : Int) ≤ k
  · rw [← whereI_out A k (.inr hk2)] at HWh
    go_wp2_with (go_at_call 8; refine (HLn.out w3).mono ?_; rintro e w' ⟨rfl, hww⟩; subst w')
    go_loop [8, 9] (fun bv x => ∃ (j : Nat) (m : Int), j ≤ A.length ∧ x = .int .i64 ((j : Int) - 1) ∧ bv = .int .i64 m ∧ Hid (BackAt A k j m)) (fun _ x => (intOf x + 1).toNat)
    case atStart => exact ⟨A.length, -1, Nat.le_refl _, by go_num, rfl, .inr ⟨rfl, fun i h1 h2 => by omega⟩⟩
    case round =>
      obtain ⟨j, m, hj, rfl, rfl, HN⟩ := hrel
      by_cases hj0 : 0 < j
      · obtain ⟨q, rfl⟩ : ∃ q, j = q + 1 := ⟨j - 1, by omega⟩
        have hq : q < A.length := by omega
        have hcq := (HI2.out.below HX.out.1).cell (List.getElem?_eq_getElem hq)
        have HS := hid (back_step A k q m hq HN.out)
        generalize A[q] = y at hcq HS
        have hqq : ((q + 1 : Nat) : Int) - 1 = (q : Int) := by omega
        rw [hqq]
        clear hqq HN
        go_wp2_with fail
        all_goals go_round
        all_goals first
          | exact ⟨q, (q : Int), by omega, by go_num, rfl, HS.out.1 (by omega)⟩
          | exact ⟨q, m, by omega, by go_num, rfl, HS.out.2 (by omega)⟩
          | (simp [intOf]; done)
          | (simp [intOf]; omega)
      · obtain rfl : j = 0 := by omega
        obtain rfl : m = firstGe A k := HN.out.done
        go_wp2_with fail
        go_loopw [75] (fun x wr => ∃ j : Nat, j ≤ A.length ∧ x = .int .i64 j ∧ Hid (Below w3.heap.size w3 wr)) (fun x _ => A.length - (intOf x).toNat)
        case atStart => exact ⟨0, Nat.zero_le _, rfl, Below.refl _ _⟩
        case round =>
          obtain ⟨j, hj, rfl, HB⟩ := hrel
          have gx0 := (HB.out.cell (p := ⟨w2.heap.size, 0, none⟩) (by show w2.heap.size < _; omega)).trans hx0
          have gx1 := (HB.out.cell (p := ⟨w2.heap.size, 1, none⟩) (by show w2.heap.size < _; omega)).trans hx1
          have gy0 := (HB.out.cell (p := ⟨w2.heap.size + 1, 0, none⟩) (by show w2.heap.size + 1 < _; omega)).trans hy0
          have gy1 := (HB.out.cell (p := ⟨w2.heap.size + 1, 1, none⟩) (by show w2.heap.size + 1 < _; omega)).trans hy1
          by_cases hlt : j < A.length
          · have hcx := ((HI.out.below HX.out.1).below HB.out).cell (List.getElem?_eq_getElem hlt)
            have hcy := ((HI2.out.below HX.out.1).below HB.out).cell (List.getElem?_eq_getElem hlt)
            generalize A[j] = y at hcx hcy
            go_wp2_with fail
            go_quiet (fail)
            go_wp2
            go_roundw
            case rel => exact ⟨j + 1, by omega, by go_num, below_drewN HB.out _⟩
            case measure => simp [intOf]; omega
          · have HBw := hid (HX.out.1.trans (HB.out.mono HX.out.1.size))
            have hws : w2.heap.size < wr.heap.size := by have := HB.out.size; omega
            go_wp2_with fail
            refine (HWh.out wr HBw.out).mono ?_
            rintro e w4 ⟨rfl, hb4⟩
            have kx0 := (hb4.cell (p := ⟨w2.heap.size, 0, none⟩) hws).trans gx0
            have kx1 := (hb4.cell (p := ⟨w2.heap.size, 1, none⟩) hws).trans gx1
            have HB4 := hid (HBw.out.trans (hb4.mono HBw.out.size))
            clear hb4 gx0 gx1 gy0 gy1
            go_wp2_with fail
            refine (HBk.out w4 HB4.out).mono ?_
            rintro e w5 ⟨rfl, hb5⟩
            have HB5 := hid (HB4.out.trans (hb5.mono HB4.out.size))
            clear hb5
            go_wp2_with fail
            go_ret
            exact ⟨by simp, HB2.out.trans (HB5.out.mono HB2.out.size)⟩
  · obtain ⟨kn, rfl⟩ : ∃ kn : Nat, k = kn := ⟨k.toNat, by omega⟩
    have hkn : kn < A.length := by omega
    have hck := (HI2.out.below HX.out.1).cell (List.getElem?_eq_getElem hkn)
    rw [← whereI_in A kn hkn] at HWh
    generalize A[kn] = y at hck HWh
    go_wp2_with (go_at_call 8; refine (HLn.out w3).mono ?_; rintro e w' ⟨rfl, hww⟩; subst w')
    go_loop [8, 9] (fun bv x => ∃ (j : Nat) (m : Int), j ≤ A.length ∧ x = .int .i64 ((j : Int) - 1) ∧ bv = .int .i64 m ∧ Hid (BackAt A (kn : Int) j m)) (fun _ x => (intOf x + 1).toNat)
    case atStart => exact ⟨A.length, -1, Nat.le_refl _, by go_num, rfl, .inr ⟨rfl, fun i h1 h2 => by omega⟩⟩
    case round =>
      obtain ⟨j, m, hj, rfl, rfl, HN⟩ := hrel
      by_cases hj0 : 0 < j
      · obtain ⟨q, rfl⟩ : ∃ q, j = q + 1 := ⟨j - 1, by omega⟩
        have hq : q < A.length := by omega
        have hcq := (HI2.out.below HX.out.1).cell (List.getElem?_eq_getElem hq)
        have HS := hid (back_step A (kn : Int) q m hq HN.out)
        generalize A[q] = y at hcq HS
        have hqq : ((q + 1 : Nat) : Int) - 1 = (q : Int) := by omega
        rw [hqq]
        clear hqq HN
        go_wp2_with fail
        all_goals go_round
        all_goals first
          | exact ⟨q, (q : Int), by omega, by go_num, rfl, HS.out.1 (by omega)⟩
          | exact ⟨q, m, by omega, by go_num, rfl, HS.out.2 (by omega)⟩
          | (simp [intOf]; done)
          | (simp [intOf]; omega)
      · obtain rfl : j = 0 := by omega
        obtain rfl : m = firstGe A (kn : Int) := HN.out.done
        go_wp2_with fail
        go_loopw [75] (fun x wr => ∃ j : Nat, j ≤ A.length ∧ x = .int .i64 j ∧ Hid (Below w3.heap.size w3 wr)) (fun x _ => A.length - (intOf x).toNat)
        case atStart => exact ⟨0, Nat.zero_le _, rfl, Below.refl _ _⟩
        case round =>
          obtain ⟨j, hj, rfl, HB⟩ := hrel
          have gx0 := (HB.out.cell (p := ⟨w2.heap.size, 0, none⟩) (by show w2.heap.size < _; omega)).trans hx0
          have gx1 := (HB.out.cell (p := ⟨w2.heap.size, 1, none⟩) (by show w2.heap.size < _; omega)).trans hx1
          have gy0 := (HB.out.cell (p := ⟨w2.heap.size + 1, 0, none⟩) (by show w2.heap.size + 1 < _; omega)).trans hy0
          have gy1 := (HB.out.cell (p := ⟨w2.heap.size + 1, 1, none⟩) (by show w2.heap.size + 1 < _; omega)).trans hy1
          by_cases hlt : j < A.length
          · have hcx := ((HI.out.below HX.out.1).below HB.out).cell (List.getElem?_eq_getElem hlt)
            have hcy := ((HI2.out.below HX.out.1).below HB.out).cell (List.getElem?_eq_getElem hlt)
            generalize A[j] = y at hcx hcy
            go_wp2_with fail
            go_quiet (fail)
            go_wp2
            go_roundw
            case rel => exact ⟨j + 1, by omega, by go_num, below_drewN HB.out _⟩
            case measure => simp [intOf]; omega
          · have HBw := hid (HX.out.1.trans (HB.out.mono HX.out.1.size))
            have hws : w2.heap.size < wr.heap.size := by have := HB.out.size; omega
            go_wp2_with fail
            refine (HWh.out wr HBw.out).mono ?_
            rintro e w4 ⟨rfl, hb4⟩
            have kx0 := (hb4.cell (p := ⟨w2.heap.size, 0, none⟩) hws).trans gx0
            have kx1 := (hb4.cell (p := ⟨w2.heap.size, 1, none⟩) hws).trans gx1
            have HB4 := hid (HBw.out.trans (hb4.mono HBw.out.size))
            clear hb4 gx0 gx1 gy0 gy1
            go_wp2_with fail
            refine (HBk.out w4 HB4.out).mono ?_
            rintro e w5 ⟨rfl, hb5⟩
            have HB5 := hid (HB4.out.trans (hb5.mono HB4.out.size))
            clear hb5
            go_wp2_with fail
            go_ret
            exact ⟨by simp, HB2.out.trans (HB5.out.mono HB2.out.size)⟩
end Go.Proofs.Ytmonjikjgchloaa
