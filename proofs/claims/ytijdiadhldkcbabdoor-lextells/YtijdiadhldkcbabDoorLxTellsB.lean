/- Walk of LexTells, by how long the two texts are together. -/
import Derived.Test.YtijdiadhldkcbabDoorLxTellsF
namespace Go.Proofs.YtijdiadhldkcbabDoor
open Go.RowKit Go.Shelf

set_option maxRecDepth 100000 in
set_option maxHeartbeats 20000000 in
theorem Tells_many (hR : RToks) (s : ByteArray) (file : Int) (a b : ByteArray) (w : World) (hE : Env w) (ha : a.size ≤ 140737488355328) (hb : b.size ≤ 140737488355328) (hsum : ¬ a.size + b.size < 100) :
    Calls Tryd.prog 3 #[.string s, .int .i64 file, .string a, .string b] w fun e w' => e = .returned (.bool true) ∧ Below w.heap.size w w' := by
  have HT := hid (fun W (h : Below w.heap.size w W) => Tokens_any file s W (hE.below h))
  have HRt := hid (fun W => hR file s W)
  unfold TokPost faultV at HT HRt
  have HFew := hid (toks_few file s.data.toList)
  have HSm := hid (toks_small file s.data.toList)
  have HHd := hid (toks_head file s.data.toList)
  go_enter Tryd.func3, Tryd.ntmps3
  go_wp2_with fail
  refine (HT.out _ (Below.refl _ _)).mono ?_
  rintro e w1 ⟨a1, c1, rfl, hT1, hb1, hcap1⟩
  have HL := hid (linesF_ok (toksF file s.data.toList).1 HHd.out)
  have HFl := hid (linesF_flat (toksF file s.data.toList).1)
  generalize (toksF file s.data.toList).1 = ts at *
  generalize (toksF file s.data.toList).2 = F at *
  obtain ⟨f0, f1, f2⟩ := F
  dsimp only at HRt HT ⊢
  have hts := HFew.out
  have HBa := hid ((Below.refl _ w1).alloc (Nat.le_refl _) (.cells #[.int .i64 f0, .int .i64 f1, .int .i64 f2] 25))
  have HF1 := hid (heap_alloc_new w1 (.cells #[.int .i64 f0, .int .i64 f1, .int .i64 f2] 25))
  clear HT HHd
  go_wp2_with fail
  generalize hw1 : w1.alloc (.cells #[.int .i64 f0, .int .i64 f1, .int .i64 f2] 25) = w1' at HBa HF1 ⊢
  clear hw1
  refine (HRt.out _).mono ?_
  rintro e w2 ⟨a2, c2, rfl, hT2, hb2, hcap2⟩
  have HB2 := hid (HBa.out.trans (hb2.mono HBa.out.size))
  have HF2 := hid ((hb2.block _ (lt_of_block HF1.out)).trans HF1.out)
  have HTx := hid (hT1.below HB2.out)
  have HTy := hid hT2
  have HEn := hid (hE.below (hb1.trans (HB2.out.mono hb1.size)))
  have HBw := hid (hb1.trans (HB2.out.mono hb1.size))
  clear HRt HBa HF1 hT1 hT2 hb1 hb2 HB2
  have hF0 := (block_facts HF2.out 0).1
  have hF1 := (block_facts HF2.out 1).1
  have hF2 := (block_facts HF2.out 2).1
  simp at hF0 hF1 hF2
  have hlt12 := lt_of_block HF2.out
  have HSame := hid (fun W (h : Below w2.heap.size w2 W) => SameTokens_any a1 a2 c1 c2 ts W (HTx.out.below h) (HTy.out.below h) (by omega))
  have HN1 := hid (fun W => Name_any a W (by unfold maxLen; omega))
  have HN2 := hid (fun W => RName_any a W (by unfold maxLen; omega))
  have HK1 := hid (fun (hs : a.size + b.size < 100) W (h : Below w2.heap.size w2 W) => Sticks_any a b W (HEn.out.below h) (by omega))
  have HK2 := hid (fun (hs : a.size + b.size < 100) W => RSticks_of hR a b W (by omega))
  have HJ1 := hid (fun W (h : Below w2.heap.size w2 W) => Join_any a2 c2 ts W (HEn.out.below h) (HTy.out.below h) (by omega) (fun t ht => by have := HSm.out t ht; omega))
  have HJ2 := hid (fun W (h : Below w2.heap.size w2 W) => RJoin_of hR a2 c2 ts W (HTy.out.below h) (by omega) HSm.out)
  generalize nameIs a.data.toList = nb at HN1 HN2
  generalize sticksB a b = sb at HK1 HK2
  generalize (⟨(joinL ts).toArray⟩ : ByteArray) = jb at HJ1 HJ2
  have HB3 := hid ((Below.refl _ w2).alloc (Nat.le_refl _) (.cells #[.int .i64 f0, .int .i64 f1, .int .i64 f2] 25))
  go_wp2_with fail
  generalize w2.alloc (.cells #[.int .i64 f0, .int .i64 f1, .int .i64 f2] 25) = w3 at HB3 ⊢
  refine (HSame.out _ HB3.out).mono ?_
  rintro e w4 ⟨rfl, hb4⟩
  have HB4 := hid (HB3.out.trans (hb4.mono HB3.out.size))
  clear hb4 HB3 hF0 hF1 hF2 HF2
  go_wp2_with fail
  refine (HN1.out _).mono ?_
  rintro e w5 ⟨rfl, hb5⟩
  have HB5 := hid (HB4.out.trans (hb5.mono HB4.out.size))
  clear hb5 HB4
  go_wp2_with fail
  refine (HN2.out _).mono ?_
  rintro e w5' ⟨rfl, hww⟩
  subst w5'
  have hnb : (nb != nb) = false := by cases nb <;> rfl
  have hsi : ¬ ((a.size : Int) + (b.size : Int) < 100) := by omega
  go_wp2_with fail
  have HB7 := HB5
  generalize w5 = w7 at HB7 ⊢
  clear HB5 hsi HK1 HK2 hsum HN1 HN2 hnb
  refine (HJ1.out _ HB7.out).mono ?_
  rintro e w8 ⟨rfl, hb8⟩
  have HB8 := hid (HB7.out.trans (hb8.mono HB7.out.size))
  clear hb8 HB7
  go_wp2_with fail
  refine (HJ2.out _ HB8.out).mono ?_
  rintro e w9 ⟨rfl, hb9⟩
  have HB9 := hid (HB8.out.trans (hb9.mono HB8.out.size))
  have HTy9 := hid (HTy.out.below HB9.out)
  clear hb9 HB8
  go_wp2_with fail
  refine (Lines_tok a2 c2 ts _ HTy9.out (by omega)).mono ?_
  rintro e w10 ⟨lv, rfl, ⟨la, lc, rfl, hLA⟩, hb10⟩
  have HB10 := hid (HB9.out.trans (hb10.mono HB9.out.size))
  have HTy10 := hid (HTy9.out.below hb10)
  have HEn10 := hid (HEn.out.below HB10.out)
  have HLA := hid hLA
  clear HTy9 HTy HTx HEn hb10 HB9 hLA HSame HJ1 HJ2
  go_wp2_with fail
  have hgs : (linesF ts).length ≤ 3000 := by
    have h := (lines_len ts ts.length (Nat.le_refl _)).1
    rw [List.take_length] at h
    omega
  generalize linesF ts = gs at HL HFl HLA hgs ⊢
  go_loopw [13, 76] (fun nv x wr => ∃ j : Nat, j ≤ gs.length ∧ nv = .int .i64 (aheadN gs j : Nat) ∧ x = .int .i64 j ∧ Hid (Below w10.heap.size w10 wr)) (fun _ x _ => gs.length - (intOf x).toNat)
  case atStart => exact ⟨0, Nat.zero_le _, rfl, rfl, Below.refl _ _⟩
  case round =>
    obtain ⟨j, hj, rfl, rfl, HBj⟩ := hrel
    by_cases hlt : j < gs.length
    · have hgj : gs[j]? = some gs[j] := List.getElem?_eq_getElem hlt
      obtain ⟨t0, r, hg, hf0, hfr⟩ := HL.out gs[j] (List.getElem_mem hlt)
      rcases HLA.out with h | ⟨lb, rfl, hlb, hlc⟩
      · rw [h] at hlt; simp at hlt
      obtain ⟨aj, cj, hcj, hTj, hcapj⟩ := hlc j _ hgj
      obtain ⟨hat1, hat2⟩ := line_at gs j _ hgj
      have hsucc := aheadN_succ gs j _ hgj
      rw [HFl.out] at hat1 hat2
      have hcellj := (HBj.out.cell (p := ⟨lb, j, none⟩) hlb).trans hcj
      rw [hg] at hat1 hat2 hcellj hTj hcapj hsucc
      generalize aheadN gs j = n at hat1 hat2 hsucc ⊢
      have hglen : (t0 :: r).length = r.length + 1 := rfl
      rw [hglen] at hat1 hat2 hcellj hcapj hsucc
      have HTg := hid (hTj.below HBj.out)
      have HTyj := hid (HTy10.out.below HBj.out)
      rcases HTyj.out with h | ⟨yb, yo, hay, hyb, hyc⟩
      · rw [h] at hat2; simp at hat2
      subst hay
      rcases HTg.out with h | ⟨gb, go, hag, hgb, hgc⟩
      · cases h
      subst hag
      have hfirst := hgc 0 t0 rfl 3 _ rfl
      simp only [Nat.zero_mul, Nat.add_zero] at hfirst
      rw [hf0] at hfirst
      have HTs : Hid (TAt wr (some ⟨yb, yo + n * 11, none⟩) (t0 :: r)) := by
        refine .inr ⟨yb, yo + n * 11, rfl, hyb, fun k x hx i v hv => ?_⟩
        have hk : k < (t0 :: r).length := (List.getElem?_eq_some_iff.1 hx).1
        have hx2 : ts[n + k]? = some x := by
          rw [← hat1, List.getElem?_take, if_pos (by rw [hglen] at hk; exact hk), List.getElem?_drop] at hx
          exact hx
        have := hyc (n + k) x hx2 i v hv
        rw [Nat.add_mul, ← Nat.add_assoc] at this
        exact this
      have HSm2 := hid (fun W (h : Below wr.heap.size wr W) => SameTokens_any (some ⟨gb, go, none⟩) (some ⟨yb, yo + n * 11, none⟩) cj (c2 - n) (t0 :: r) W (HTg.out.below h) (HTs.out.below h) (by rw [hglen]; omega))
      rw [hglen] at HSm2
      have hn1 : (n : Int) < (ts.length : Int) := by omega
      have hn2 : ¬ ((ts.length : Int) ≤ (n : Int)) := by omega
      have hn3 : min ((n : Int) + ((r.length : Int) + 1)) (ts.length : Int) = (n : Int) + ((r.length : Int) + 1) := by omega
      have HGc := hid hgc
      have HGb := hid hgb
      clear hgc hyc hlc hcj hTj hat1 HTs HTyj
      go_wp2_with fail
      refine (HSm2.out _ (Below.refl _ _)).mono ?_
      rintro e w11 ⟨rfl, hb11⟩
      have hfirst2 := (hb11.cell (World.block_lt_of_cell? _ _ hfirst)).trans hfirst
      have hgb2 : gb < w11.heap.size := Nat.lt_of_lt_of_le HGb.out hb11.size
      have HB11 := hid (HBj.out.trans (hb11.mono HBj.out.size))
      have HGc2 := hid (fun (k : Nat) x (hx : r[k]? = some x) i v (hv : (encT x)[i]? = some v) => (hb11.cell (p := ⟨gb, go + (k + 1) * 11 + i, none⟩) HGb.out).trans (HGc.out (k + 1) x (by simpa using hx) i v hv))
      have HSucc := hid hsucc
      have HFr := hid hfr
      clear hfirst HSm2 HGc hb11 hcellj hsucc hfr HTg
      have hcj1 : (1 : Int) ≤ (r.length : Int) + 1 := by omega
      obtain ⟨wo, rfl⟩ : ∃ wo, wo = wr := ⟨_, rfl⟩
      by_cases hc1 : cj = 1
      · subst hc1
        have hr0 : r.length = 0 := by omega
        have hr : r = [] := List.eq_nil_of_length_eq_zero hr0
        subst hr
        clear hcapj hr0 HFr HGc2
        go_wp2_with fail
        go_loopw [114] (fun x wq => x = .int .i64 0 ∧ Hid (Below w11.heap.size w11 wq)) (fun _ _ => 0)
        case atStart => exact ⟨rfl, Below.refl _ _⟩
        case round =>
          obtain ⟨rfl, HQ⟩ := hrel
          go_wp2_with fail
          exact ⟨⟨j + 1, by omega, by rw [HSucc.out]; go_num, by go_num, HB11.out.trans (HQ.out.mono HB11.out.size)⟩, by simp [intOf]; omega⟩
      · go_wp2_with fail
        go_loopw [114] (fun x wq => ∃ k : Nat, k ≤ r.length ∧ x = .int .i64 k ∧ Hid (Below w11.heap.size w11 wq)) (fun x _ => r.length - (intOf x).toNat)
        case atStart => exact ⟨0, Nat.zero_le _, rfl, Below.refl _ _⟩
        case round =>
          obtain ⟨k, hk, rfl, HQ⟩ := hrel
          by_cases hkl : k < r.length
          · have hxk : r[k]? = some r[k] := List.getElem?_eq_getElem hkl
            have hcx : ∀ i v, (encT r[k])[i]? = some v → wr.cell? ⟨gb, go + 11 + k * 11 + i, none⟩ = some v := fun i v hv => by
              have h := (HQ.out.cell (p := ⟨gb, go + (k + 1) * 11 + i, none⟩) hgb2).trans (HGc2.out k _ hxk i v hv)
              rw [show go + (k + 1) * 11 + i = go + 11 + k * 11 + i by omega] at h
              exact h
            have hff := HFr.out r[k] (List.getElem_mem hkl)
            generalize r[k] = t at hcx hff
            obtain ⟨tk, tt, tsp, tfi, tf, tl, th, tn⟩ := t
            dsimp only at hff
            subst hff
            have q0 := hcx 0 _ rfl
            have q1 := hcx 1 _ rfl
            have q2 := hcx 2 _ rfl
            have q3 := hcx 3 _ rfl
            have q4 := hcx 4 _ rfl
            have q5 := hcx 5 _ rfl
            have q6 := hcx 6 _ rfl
            have q7 := hcx 7 _ rfl
            have q8 := hcx 8 _ rfl
            have q9 := hcx 9 _ rfl
            have q10 := hcx 10 _ rfl
            simp only [Nat.add_zero] at q0
            have HQ2 := hid (HQ.out.alloc HQ.out.size (.cells #[.int .i64 tk, .string tt, .bool tsp, .bool false, .int .i64 tf, .int .i64 tl, .int .i64 th, .int .i64 tn, .slice none 0 0, .slice none 0 0, .int .i64 0] 37))
            clear hcx hxk
            go_wp2_with fail
            exact ⟨⟨k + 1, by omega, by go_num, HQ2.out⟩, by simp [intOf]; omega⟩
          · go_wp2_with fail
            exact ⟨⟨j + 1, by omega, by rw [HSucc.out]; go_num, by go_num, HB11.out.trans (HQ.out.mono HB11.out.size)⟩, by simp [intOf]; omega⟩
    · obtain rfl : j = gs.length := by omega
      have hall := aheadN_all gs
      rw [HFl.out] at hall
      rw [hall]
      have HSg1 := hid (fun W (h : Below w10.heap.size w10 W) => Signs_any W (HEn10.out.below h))
      have HSg2 := hid (fun W => RSigns_any W)
      have HL1 := hid (fun c W => Letter_any c W)
      have HL2 := hid (fun c W => RLetter_any c W)
      have HD1 := hid (fun c W => Digit_any c W)
      have HD2 := hid (fun c W => RDigit_any c W)
      clear HL HLA hlt
      go_wp2_with fail
      refine (HSg1.out _ HBj.out).mono ?_
      rintro e w12 ⟨rfl, hw12⟩
      have HB12 := hid (HBj.out.alloc HBj.out.size (.cells signCells 9))
      rw [← hw12] at HB12
      clear hw12 HBj
      go_wp2_with fail
      refine (HSg2.out _).mono ?_
      rintro e w13 ⟨rfl, hw13⟩
      have HB13 := hid (HB12.out.alloc HB12.out.size (.cells signCells 9))
      rw [← hw13] at HB13
      clear hw13 HB12
      go_wp2_with fail
      refine (HSg1.out _ HB13.out).mono ?_
      rintro e w14 ⟨rfl, hw14⟩
      have HB14 := hid (HB13.out.alloc HB13.out.size (.cells signCells 9))
      have HSA := hid (signs_at w13)
      rw [← hw14] at HB14 HSA
      clear hw14 HB13 HSg1
      go_wp2_with fail
      go_loopw [133] (fun x wr => ∃ k : Nat, k ≤ 48 ∧ x = .int .i64 k ∧ Hid (Below w14.heap.size w14 wr)) (fun x _ => 48 - (intOf x).toNat)
      case atStart => exact ⟨0, Nat.zero_le _, rfl, Below.refl _ _⟩
      case round =>
        obtain ⟨k, hk, rfl, HQ⟩ := hrel
        by_cases hkl : k < 48
        · have hsk : signsL[k]? = some (signsL[k]'hkl) := List.getElem?_eq_getElem hkl
          have hz1 := (HSA.out.below HQ.out).2 k _ hsk
          have hz2 := (signs_at wr).2 k _ hsk
          have hzb := World.block_lt_of_cell? _ _ hz1
          generalize signsL[k]'hkl = y at hz1 hz2
          go_wp2_with fail
          refine (HSg2.out _).mono ?_
          rintro e w15 ⟨rfl, hw15⟩
          have HQ2 := hid (HQ.out.alloc HQ.out.size (.cells signCells 9))
          rw [← hw15] at HQ2 hz2
          clear hw15 hz1
          go_wp2_with fail
          exact ⟨⟨k + 1, by omega, by go_num, HQ2.out⟩, by simp [intOf]; omega⟩
        · have HB15 := hid (HB14.out.trans (HQ.out.mono HB14.out.size))
          clear HQ HB14 HSA HSg2
          go_wp2_with fail
          generalize wr = wz at HB15 ⊢
          go_loopw [147] (fun x wr => ∃ k : Nat, k ≤ a.size ∧ x = .int .i64 k ∧ Hid (Below wz.heap.size wz wr)) (fun x _ => a.size - (intOf x).toNat)
          case atStart => exact ⟨0, Nat.zero_le _, rfl, Below.refl _ _⟩
          case round =>
            obtain ⟨k, hk, rfl, HQ⟩ := hrel
            by_cases hka : k < a.size
            · have hA1 : Hid (∀ p : Later wr, Calls Tryd.prog 20 #[.int .u8 (a[k].toNat : Int)] p.W fun e w' => e = .returned (.bool (letB a[k])) ∧ Below p.W.heap.size p.W w') := fun p => (HL1.out a[k] p.W).mono fun e w' ⟨he, hw⟩ => ⟨he, by rw [hw]; exact Below.refl _ _⟩
              have hA2 : Hid (∀ p : Later wr, Calls Tryd.prog 21 #[.int .u8 (a[k].toNat : Int)] p.W fun e w' => e = .returned (.bool (letB a[k])) ∧ Below p.W.heap.size p.W w') := fun p => (HL2.out a[k] p.W).mono fun e w' ⟨he, hw⟩ => ⟨he, by rw [hw]; exact Below.refl _ _⟩
              have hA3 : Hid (∀ p : Later wr, Calls Tryd.prog 22 #[.int .u8 (a[k].toNat : Int)] p.W fun e w' => e = .returned (.bool (digB a[k])) ∧ Below p.W.heap.size p.W w') := fun p => (HD1.out a[k] p.W).mono fun e w' ⟨he, hw⟩ => ⟨he, by rw [hw]; exact Below.refl _ _⟩
              have hA4 : Hid (∀ p : Later wr, Calls Tryd.prog 23 #[.int .u8 (a[k].toNat : Int)] p.W fun e w' => e = .returned (.bool (digB a[k])) ∧ Below p.W.heap.size p.W w') := fun p => (HD2.out a[k] p.W).mono fun e w' ⟨he, hw⟩ => ⟨he, by rw [hw]; exact Below.refl _ _⟩
              generalize letB a[k] = bl at hA1 hA2
              generalize digB a[k] = bd at hA3 hA4
              have hnn : Nonempty (Later wr) := ⟨⟨_, Below.refl _ _⟩⟩
              have hki : (k : Int) < (a.size : Int) := by omega
              have hk0 : (0 : Int) ≤ (k : Int) := by omega
              clear HL1 HL2 HD1 HD2
              cases bl <;> cases bd
              all_goals go_wp2_with fail
              all_goals refine region_later (by kernel_rfl) (by kernel_rfl) ?_
              all_goals repeat (first | go_big_quiet_step (first | (go_at_call 20; exact Calls.later (hA1.out _)) | (go_at_call 21; exact Calls.later (hA2.out _)) | (go_at_call 22; exact Calls.later (hA3.out _)) | (go_at_call 23; exact Calls.later (hA4.out _))) | quiet_step (first | (go_at_call 20; exact Calls.later (hA1.out _)) | (go_at_call 21; exact Calls.later (hA2.out _)) | (go_at_call 22; exact Calls.later (hA3.out _)) | (go_at_call 23; exact Calls.later (hA4.out _))))
              all_goals refine wpQuiet_nil ?_
              all_goals rintro _ ⟨p, rfl⟩
              all_goals have HQ2 := hid (HQ.out.trans (p.hb.mono HQ.out.size))
              all_goals clear hA1 hA2 hA3 hA4 hnn
              all_goals go_wp2_with fail
              all_goals exact ⟨⟨k + 1, by omega, by go_num, HQ2.out⟩, by simp [intOf]; omega⟩
            · have HBz := hid (HBw.out.trans ((HB10.out.trans ((HB15.out.trans (HQ.out.mono HB15.out.size)).mono HB10.out.size)).mono HBw.out.size))
              go_wp2_with fail
              go_ret
              exact ⟨by first | rfl | simp, HBz.out⟩
end Go.Proofs.YtijdiadhldkcbabDoor
