/- Some texts in one. -/
import Derived.Test.YtkphogfmkempnacDoorCmH
import Derived.Test.YtkphogfmkempnacDoorCdShelfB
import Derived.Test.YtkphogfmkempnacDoorCdEnv
import Derived.Lib.AppendIntMem
namespace Go.Proofs.YtkphogfmkempnacDoor
open Go.RowKit Go.Shelf

theorem Itoa_any (n : Int) (h0 : -9223372036854775808 ≤ n) (h1 : n ≤ 9223372036854775807) (w : World) (hP : Pw w) :
    Calls Tryd.prog 12 #[.int .i64 n] w fun e w' => e = .returned (.string ⟨(Lib.itoa n).toArray⟩) ∧ Below w.heap.size w w' := by
  refine (Any.strconv_Itoa Tryd.laysItoa n h0 h1 w hP).mono ?_
  rintro e w' ⟨rfl, k, os, rfl⟩
  exact ⟨rfl, Lib.below_grow _ _ (Nat.le_refl _) _ _⟩
theorem dec_size (u : Nat) (h : u < 18446744073709551616) : (ByteArray.mk (Lib.decDigits u).toArray).size ≤ 20 := by
  show (Lib.decDigits u).toArray.size ≤ 20
  rw [List.size_toArray, Lib.decDigits_length]
  exact Lib.nDigits_le20 u h

set_option maxRecDepth 100000 in
set_option maxHeartbeats 1000000 in
theorem lit_any (n : Int) (hn : IsInt n) (w : World) (hP : Pw w) :
    Calls Tryd.prog 7 #[.int .i64 n] w fun e w' => e = .returned (.string ⟨(litL n).toArray⟩) ∧ Below w.heap.size w w' := by
  obtain ⟨h0, h1⟩ := hn
  by_cases hneg : n < 0
  · have HI := hid (Itoa_any (-1 - n) (by omega) (by omega) w hP)
    have hi : Lib.itoa (-1 - n) = Lib.decDigits (-1 - n).toNat := by unfold Lib.itoa; rw [if_neg (by omega)]
    rw [hi] at HI
    have hs := dec_size (-1 - n).toNat (by omega)
    have HL : Hid (((⟨#[40, 126]⟩ : ByteArray) ++ ⟨(Lib.decDigits (-1 - n).toNat).toArray⟩) ++ ⟨#[41]⟩ = (⟨(litL n).toArray⟩ : ByteArray)) := by
      show _ = _
      apply ByteArray.ext
      apply Array.ext'
      rw [ByteArray.data_append, ByteArray.data_append, Array.toList_append, Array.toList_append]
      unfold litL litW
      rw [if_pos hneg]
      simp [flatW]
    generalize (⟨(Lib.decDigits (-1 - n).toNat).toArray⟩ : ByteArray) = D at HI hs HL
    have hc1 : ∀ W : World, (Op.stringOp .add ⟨#[40, 126]⟩ D).run Tryd.prog W = .ok (.string (⟨#[40, 126]⟩ ++ D)) W := fun W => by
      rw [run_string_add_sum W _ _ (by show 2 + _ ≤ _; omega)]
    have hc2 : ∀ W : World, (Op.stringOp .add ((⟨#[40, 126]⟩ : ByteArray) ++ D) ⟨#[41]⟩).run Tryd.prog W = .ok (.string (⟨(litL n).toArray⟩)) W := fun W => by
      rw [run_string_add_sum W _ _ (by rw [ByteArray.size_append]; show 2 + _ + 1 ≤ _; omega), HL.out]
    clear hi hP hs HL
    go_enter Tryd.func7, Tryd.ntmps7
    go_wp2_with fail
    refine HI.out.mono ?_
    rintro e w1 ⟨rfl, hb1⟩
    have HB1 := hid hb1
    clear hb1 HI
    go_wp2_with fail
    go_ret
    exact ⟨rfl, HB1.out⟩
  · have HI := hid (Itoa_any n (by omega) (by omega) w hP)
    have hi : Lib.itoa n = Lib.decDigits n.toNat := by unfold Lib.itoa; rw [if_neg (by omega)]
    rw [hi] at HI
    have hs := dec_size n.toNat (by omega)
    have HL : Hid (((⟨#[40]⟩ : ByteArray) ++ ⟨(Lib.decDigits n.toNat).toArray⟩) ++ ⟨#[41]⟩ = (⟨(litL n).toArray⟩ : ByteArray)) := by
      show _ = _
      apply ByteArray.ext
      apply Array.ext'
      rw [ByteArray.data_append, ByteArray.data_append, Array.toList_append, Array.toList_append]
      unfold litL litW
      rw [if_neg hneg]
      simp [flatW]
    generalize (⟨(Lib.decDigits n.toNat).toArray⟩ : ByteArray) = D at HI hs HL
    have hc1 : ∀ W : World, (Op.stringOp .add ⟨#[40]⟩ D).run Tryd.prog W = .ok (.string (⟨#[40]⟩ ++ D)) W := fun W => by
      rw [run_string_add_sum W _ _ (by show 1 + _ ≤ _; omega)]
    have hc2 : ∀ W : World, (Op.stringOp .add ((⟨#[40]⟩ : ByteArray) ++ D) ⟨#[41]⟩).run Tryd.prog W = .ok (.string (⟨(litL n).toArray⟩)) W := fun W => by
      rw [run_string_add_sum W _ _ (by rw [ByteArray.size_append]; show 1 + _ + 1 ≤ _; omega), HL.out]
    clear hi hP hs HL
    go_enter Tryd.func7, Tryd.ntmps7
    go_wp2_with fail
    refine HI.out.mono ?_
    rintro e w1 ⟨rfl, hb1⟩
    have HB1 := hid hb1
    clear hb1 HI
    go_wp2_with fail
    go_ret
    exact ⟨rfl, HB1.out⟩
end Go.Proofs.YtkphogfmkempnacDoor
namespace Go.Proofs.YtkphogfmkempnacDoor
open Go.RowKit Go.Shelf

theorem bytes_list (l : List UInt8) : (ByteArray.mk l.toArray).data.toList = l := by simp
theorem idle_text1 (x y : List UInt8) : ((((⟨x.toArray⟩ : ByteArray) ++ ⟨#[32, 63, 32]⟩) ++ ⟨y.toArray⟩) ++ ⟨#[32, 58, 32, 40, 49, 47, 48, 41]⟩).data.toList = x ++ [32, 63, 32] ++ y ++ [32, 58, 32, 40, 49, 47, 48, 41] := by
  simp [ByteArray.data_append]
theorem idle_text2 (x : List UInt8) : ((⟨x.toArray⟩ : ByteArray) ++ ⟨#[32, 38, 38, 32, 40, 49, 37, 48, 41, 32, 124, 124, 32, 49]⟩).data.toList = x ++ [32, 38, 38, 32, 40, 49, 37, 48, 41, 32, 124, 124, 32, 49] := by
  simp [ByteArray.data_append]
theorem idle_text3 (x : List UInt8) : ((⟨x.toArray⟩ : ByteArray) ++ ⟨#[32, 124, 124, 32, 40, 49, 47, 48, 41]⟩).data.toList = x ++ [32, 124, 124, 32, 40, 49, 47, 48, 41] := by
  simp [ByteArray.data_append]
theorem lit_size (n : Int) (h : IsInt n) : (ByteArray.mk (litL n).toArray).size ≤ 24 := by
  show (litL n).toArray.size ≤ 24
  rw [List.size_toArray]
  exact lit_len n h

set_option maxRecDepth 100000 in
set_option maxHeartbeats 2000000 in
theorem Idle_walk (HR : RTok) (a b : Int) (ha : IsInt a) (hb : IsInt b) (w : World) (hE : Ev w) (hP : Pw w) :
    Calls Tryd.prog 4 #[.int .i64 a, .int .i64 b] w fun e w' => e = .returned (.bool true) ∧ Below w.heap.size w w' := by
  have HV := hid (cdAlive_any HR w hE)
  have HLa := hid (fun W (h : Below w.heap.size w W) => lit_any a ha W (hP.below h))
  have HLb := hid (fun W (h : Below w.heap.size w W) => lit_any b hb W (hP.below h))
  have H1 := hid (fun W (h : Below w.heap.size w W) => ask_any HR ((((⟨(litL a).toArray⟩ : ByteArray) ++ ⟨#[32, 63, 32]⟩) ++ ⟨(litL b).toArray⟩) ++ ⟨#[32, 58, 32, 40, 49, 47, 48, 41]⟩) W (hE.below h))
  have H2 := hid (fun W (h : Below w.heap.size w W) => ask_any HR ((⟨(litL a).toArray⟩ : ByteArray) ++ ⟨#[32, 38, 38, 32, 40, 49, 37, 48, 41, 32, 124, 124, 32, 49]⟩) W (hE.below h))
  have H3 := hid (fun W (h : Below w.heap.size w W) => ask_any HR ((⟨(litL a).toArray⟩ : ByteArray) ++ ⟨#[32, 124, 124, 32, 40, 49, 47, 48, 41]⟩) W (hE.below h))
  rw [idle_text1] at H1
  rw [idle_text2] at H2
  rw [idle_text3] at H3
  have HI1 := hid (idle1 a b ha hb)
  have HI2 := hid (idle2 a ha)
  have HI3 := hid (idle3 a ha)
  generalize evS (litL a ++ [32, 63, 32] ++ litL b ++ [32, 58, 32, 40, 49, 47, 48, 41]) = R1 at H1 HI1
  generalize evS (litL a ++ [32, 38, 38, 32, 40, 49, 37, 48, 41, 32, 124, 124, 32, 49]) = R2 at H2 HI2
  generalize evS (litL a ++ [32, 124, 124, 32, 40, 49, 47, 48, 41]) = R3 at H3 HI3
  obtain ⟨n, e0, e1, e2⟩ := R1
  obtain ⟨m, g0, g1, g2⟩ := R2
  obtain ⟨k, h0, h1, h2⟩ := R3
  dsimp only at H1 H2 H3 HI1 HI2 HI3
  have la := lit_size a ha
  have lb := lit_size b hb
  generalize (⟨(litL a).toArray⟩ : ByteArray) = X at H1 H2 H3 HLa la
  generalize (⟨(litL b).toArray⟩ : ByteArray) = Y at H1 HLb lb
  have c1 : ∀ W : World, (Op.stringOp .add X ⟨#[32, 63, 32]⟩).run Tryd.prog W = .ok (.string (X ++ ⟨#[32, 63, 32]⟩)) W := fun W => by
    rw [run_string_add_sum W _ _ (by show _ + 3 ≤ _; omega)]
  have c2 : ∀ W : World, (Op.stringOp .add (X ++ (⟨#[32, 63, 32]⟩ : ByteArray)) Y).run Tryd.prog W = .ok (.string (X ++ ⟨#[32, 63, 32]⟩ ++ Y)) W := fun W => by
    rw [run_string_add_sum W _ _ (by rw [ByteArray.size_append]; show _ + 3 + _ ≤ _; omega)]
  have c3 : ∀ W : World, (Op.stringOp .add (X ++ (⟨#[32, 63, 32]⟩ : ByteArray) ++ Y) ⟨#[32, 58, 32, 40, 49, 47, 48, 41]⟩).run Tryd.prog W = .ok (.string (X ++ ⟨#[32, 63, 32]⟩ ++ Y ++ ⟨#[32, 58, 32, 40, 49, 47, 48, 41]⟩)) W := fun W => by
    rw [run_string_add_sum W _ _ (by rw [ByteArray.size_append, ByteArray.size_append]; show _ + 3 + _ + 8 ≤ _; omega)]
  have c4 : ∀ W : World, (Op.stringOp .add X ⟨#[32, 38, 38, 32, 40, 49, 37, 48, 41, 32, 124, 124, 32, 49]⟩).run Tryd.prog W = .ok (.string (X ++ ⟨#[32, 38, 38, 32, 40, 49, 37, 48, 41, 32, 124, 124, 32, 49]⟩)) W := fun W => by
    rw [run_string_add_sum W _ _ (by show _ + 14 ≤ _; omega)]
  have c5 : ∀ W : World, (Op.stringOp .add X ⟨#[32, 124, 124, 32, 40, 49, 47, 48, 41]⟩).run Tryd.prog W = .ok (.string (X ++ ⟨#[32, 124, 124, 32, 40, 49, 47, 48, 41]⟩)) W := fun W => by
    rw [run_string_add_sum W _ _ (by show _ + 9 ≤ _; omega)]
  generalize X ++ (⟨#[32, 63, 32]⟩ : ByteArray) ++ Y ++ ⟨#[32, 58, 32, 40, 49, 47, 48, 41]⟩ = T1 at H1 c3
  generalize X ++ (⟨#[32, 63, 32]⟩ : ByteArray) ++ Y = T1b at c2 c3
  generalize X ++ (⟨#[32, 63, 32]⟩ : ByteArray) = T1a at c1 c2
  generalize X ++ (⟨#[32, 38, 38, 32, 40, 49, 37, 48, 41, 32, 124, 124, 32, 49]⟩ : ByteArray) = T2 at H2 c4
  generalize X ++ (⟨#[32, 124, 124, 32, 40, 49, 47, 48, 41]⟩ : ByteArray) = T3 at H3 c5
  clear hE hP HR la lb ha hb
  go_enter Tryd.func4, Tryd.ntmps4
  go_wp2_with fail
  refine HV.out.mono ?_
  rintro e w1 ⟨rfl, hb1⟩
  have HB1 := hid hb1
  clear hb1 HV
  go_wp2_with fail
  refine (HLa.out _ HB1.out).mono ?_
  rintro e w2 ⟨rfl, hb2⟩
  have HB2 := hid (HB1.out.trans (hb2.mono HB1.out.size))
  clear hb2 HLa HB1
  go_wp2_with fail
  refine (HLb.out _ HB2.out).mono ?_
  rintro e w3 ⟨rfl, hb3⟩
  have HB3 := hid (HB2.out.trans (hb3.mono HB2.out.size))
  clear hb3 HLb HB2
  go_wp2_with fail
  refine (H1.out _ HB3.out).mono ?_
  rintro e w4 ⟨rfl, hb4⟩
  have hbn := (Below.refl _ w4).alloc (Nat.le_refl _) (.cells #[.int .i64 e0, .int .i64 e1, .int .i64 e2] 28)
  have HB4 := hid (HB3.out.trans ((hb4.trans (hbn.mono hb4.size)).mono HB3.out.size))
  have HF4 := hid (FBox.new w4 e0 e1 e2)
  clear hb4 hbn H1 HB3
  go_wp2_with fail
  refine (H2.out _ HB4.out).mono ?_
  rintro e w5 ⟨rfl, hb5⟩
  have hbn := (Below.refl _ w5).alloc (Nat.le_refl _) (.cells #[.int .i64 g0, .int .i64 g1, .int .i64 g2] 28)
  have HB5 := hid (HB4.out.trans ((hb5.trans (hbn.mono hb5.size)).mono HB4.out.size))
  have HF5 := hid ((HF4.out.below hb5).below hbn)
  have HG5 := hid (FBox.new w5 g0 g1 g2)
  clear hb5 hbn H2 HB4 HF4
  go_wp2_with fail
  refine (H3.out _ HB5.out).mono ?_
  rintro e w6 ⟨rfl, hb6⟩
  have hbn := (Below.refl _ w6).alloc (Nat.le_refl _) (.cells #[.int .i64 h0, .int .i64 h1, .int .i64 h2] 28)
  have HB6 := hid (HB5.out.trans ((hb6.trans (hbn.mono hb6.size)).mono HB5.out.size))
  obtain ⟨b0, _⟩ := ((HF5.out.below hb6).below hbn).facts
  obtain ⟨b1, _⟩ := ((HG5.out.below hb6).below hbn).facts
  obtain ⟨b2, _⟩ := (FBox.new w6 h0 h1 h2).facts
  clear hb6 hbn H3 HB5 HF5 HG5
  generalize hw7 : w6.alloc (.cells #[.int .i64 h0, .int .i64 h1, .int .i64 h2] 28) = w7 at b0 b1 b2 HB6
  by_cases h : a = 0
  · have i1 := HI1.out.2 h
    have i2 := HI2.out.2 h
    have i3 := HI3.out.2 h
    simp only [Prod.mk.injEq] at i2
    obtain ⟨rfl, rfl, -, -⟩ := i2
    subst i1 i3 h
    clear HI1 HI2 HI3
    go_wp2_with fail
    go_ret
    exact ⟨rfl, HB6.out⟩
  · have i1 := HI1.out.1 h
    have i2 := HI2.out.1 h
    have i3 := HI3.out.1 h
    simp only [Prod.mk.injEq] at i1 i3
    obtain ⟨rfl, rfl, -, -⟩ := i1
    obtain ⟨rfl, rfl, -, -⟩ := i3
    subst i2
    have hn : (a != 0) = true := by simpa using h
    clear HI1 HI2 HI3
    go_wp2_with fail
    go_ret
    exact ⟨rfl, HB6.out⟩
end Go.Proofs.YtkphogfmkempnacDoor
