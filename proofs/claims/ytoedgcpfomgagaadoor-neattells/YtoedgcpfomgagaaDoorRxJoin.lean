/- Walks of the document's own SameToken, SameTokens, Sticks and Join. -/
import Derived.Test.YtoedgcpfomgagaaDoorTkAgg
import Derived.Test.YtoedgcpfomgagaaDoorLxJoin
import Derived.Test.YtoedgcpfomgagaaDoorLxStand
import Derived.Test.YtoedgcpfomgagaaDoorLxRef
namespace Go.Proofs.YtoedgcpfomgagaaDoor
open Go.RowKit Go.Shelf

/-- The document's own Tokens. -/
def RToks : Prop := ∀ (file : Int) (s : ByteArray) (w : World), Calls Tryd.prog 9 #[.int .i64 file, .string s] w (TokPost file s.data.toList w)

theorem toks_err (file : Int) (l : List UInt8) (h : (toksF file l).2.1 ≠ 0) : (toksF file l).1 = [] := by
  revert h
  unfold toksF
  split
  · exact fun _ => rfl
  · split
    · exact fun _ => rfl
    · exact fun h => absurd rfl h

set_option maxRecDepth 100000 in
set_option maxHeartbeats 1000000 in
theorem RSticks_of (hR : RToks) (a b : ByteArray) (w : World) (hs : a.size + b.size ≤ 1048576) :
    Calls Tryd.prog 35 #[.string a, .string b] w fun e w' => e = .returned (.bool (sticksB a b)) ∧ Below w.heap.size w w' := by
  have HT := hid (hR 0 (a ++ b) w)
  rw [cat_data] at HT
  go_enter Tryd.func35, Tryd.ntmps35
  go_wp2_with fail
  refine HT.out.mono ?_
  rintro e w1 ⟨ad, c, rfl, hta, hb1, _⟩
  have HR : Hid (sticksB a b = ((((toksF 0 (a.data.toList ++ b.data.toList)).1.length : Int) != 2) || (((toksF 0 (a.data.toList ++ b.data.toList)).1.getD 0 noTk).text.toList != a.toList) || (((toksF 0 (a.data.toList ++ b.data.toList)).1.getD 1 noTk).text.toList != b.toList))) := rfl
  have HNe := hid (toks_err 0 (a.data.toList ++ b.data.toList))
  generalize (toksF 0 (a.data.toList ++ b.data.toList)).1 = ts at hta HR HNe
  generalize (toksF 0 (a.data.toList ++ b.data.toList)).2 = fl at HNe
  obtain ⟨f0, f1, f2⟩ := fl
  have HB := hid (hb1.alloc hb1.size (.cells #[.int .i64 f0, .int .i64 f1, .int .i64 f2] 24))
  unfold faultV
  dsimp only at HNe
  clear HT hb1
  by_cases hf : f0 = 0
  · subst hf
    clear HNe
    by_cases h2 : ts.length = 2
    · rcases hta with rfl | ⟨b0, off, rfl, hlt, hc⟩
      · simp at h2
      have c0 := hc 0 ts[0] (List.getElem?_eq_getElem (by omega)) 1 _ rfl
      have c1 := hc 1 ts[1] (List.getElem?_eq_getElem (by omega)) 1 _ rfl
      have e0 : ts.getD 0 noTk = ts[0] := by simp [List.getD, h2]
      have e1 : ts.getD 1 noTk = ts[1] := by simp [List.getD, h2]
      rw [e0, e1] at HR
      generalize ts[0] = x at c0 HR
      generalize ts[1] = y at c1 HR
      simp only [Nat.zero_mul, Nat.add_zero, Nat.one_mul] at c0 c1
      have hbn : b0 ≠ w1.heap.size := by omega
      rw [h2] at HR ⊢
      clear hc e0 e1 h2
      go_wp2
      all_goals go_ret
      all_goals (refine ⟨ret_bool ?_, HB.out⟩; rw [HR.out]; simp_all [bne])
    · have hb2 : ((ts.length : Int) != 2) = true := by simp; omega
      have HR2 : Hid (sticksB a b = true) := by show _ = _; rw [HR.out, hb2]; rfl
      clear HR h2 hta
      go_wp2
      go_ret
      exact ⟨ret_bool HR2.out.symm, HB.out⟩
  · have hts := HNe.out hf
    have hfb : (f0 == 0) = false := by simpa using hf
    have hfb2 : (f0 != 0) = true := by simpa using hf
    have HR2 : Hid (sticksB a b = true) := by show _ = _; rw [HR.out, hts]; rfl
    clear HR hta HNe hts
    go_wp2
    go_ret
    exact ⟨ret_bool HR2.out.symm, HB.out⟩

set_option maxRecDepth 100000 in
set_option maxHeartbeats 1000000 in
theorem RJoin_of (hR : RToks) (a : Option Addr) (c : Nat) (ts : List Tk) (w : World) (hT : TAt w a ts) (hl : ts.length ≤ 3000) (hz : ∀ t ∈ ts, t.text.size ≤ 3000) :
    Calls Tryd.prog 19 #[.slice a ts.length c] w fun e w' => e = .returned (.string ⟨(joinL ts).toArray⟩) ∧ Below w.heap.size w w' := by
  have HS := hid (fun x y W hs => RSticks_of hR x y W hs)
  go_enter Tryd.func19, Tryd.ntmps19
  go_wp2_with fail
  go_loopw [3, 8] (fun o x wr => ∃ k : Nat, k ≤ ts.length ∧ x = .int .i64 k ∧ o = .string ⟨(joinN ts k).toArray⟩ ∧ Hid (Below w.heap.size w wr)) (fun _ x _ => ts.length - (intOf x).toNat)
  case atStart => exact ⟨0, Nat.zero_le _, rfl, rfl, Below.refl _ _⟩
  case round =>
    obtain ⟨k, hk, rfl, rfl, HR⟩ := hrel
    by_cases hlt : k < ts.length
    · rcases hT with rfl | ⟨b0, off, rfl, hb0, hc⟩
      · simp at hlt
      have hxk : ts[k]? = some ts[k] := List.getElem?_eq_getElem hlt
      have hcx : ∀ i v, (encT ts[k])[i]? = some v → wr.cell? ⟨b0, off + k * 11 + i, none⟩ = some v := fun i v hv => (HR.out.cell (p := ⟨b0, _, none⟩) hb0).trans (hc k _ hxk i v hv)
      have hzx := hz ts[k] (List.getElem_mem hlt)
      have HJ := hid (joinN_succ ts k)
      have HA : Hid (joinAt ts k = (if 0 < k && (ts[k].space || sticksB (ts.getD (k - 1) noTk).text ts[k].text) then [32] else []) ++ ts[k].text.data.toList) := by
        show _ = _
        unfold joinAt
        rw [show ts.getD k noTk = ts[k] by simp [List.getD, hxk]]
      have hle : (joinN ts k).length ≤ 3000 * 3001 := Nat.le_trans (joinN_le ts 3000 hz k hk) (Nat.mul_le_mul (by omega) (Nat.le_refl _))
      generalize ts[k] = t at hcx hzx HA
      obtain ⟨tk, tt, tsp, tfi, tf, tl, th, tn⟩ := t
      have c0 := hcx 0 _ rfl
      have c1 := hcx 1 _ rfl
      have c2 := hcx 2 _ rfl
      have c3 := hcx 3 _ rfl
      have c4 := hcx 4 _ rfl
      have c5 := hcx 5 _ rfl
      have c6 := hcx 6 _ rfl
      have c7 := hcx 7 _ rfl
      have c8 := hcx 8 _ rfl
      have c9 := hcx 9 _ rfl
      have c10 := hcx 10 _ rfl
      simp only [Nat.add_zero] at c0
      dsimp only at hzx HA
      clear hcx hxk
      have HX := hid (heap_alloc_new wr (.cells #[.int .i64 tk, .string tt, .bool tsp, .bool tfi, .int .i64 tf, .int .i64 tl, .int .i64 th, .int .i64 tn, .slice none 0 0, .slice none 0 0, .int .i64 0] 35))
      have HB2 := hid (HR.out.alloc HR.out.size (.cells #[.int .i64 tk, .string tt, .bool tsp, .bool tfi, .int .i64 tf, .int .i64 tl, .int .i64 th, .int .i64 tn, .slice none 0 0, .slice none 0 0, .int .i64 0] 35))
      have HBx := hid ((Below.refl wr.heap.size wr).alloc (Nat.le_refl _) (.cells #[.int .i64 tk, .string tt, .bool tsp, .bool tfi, .int .i64 tf, .int .i64 tl, .int .i64 th, .int .i64 tn, .slice none 0 0, .slice none 0 0, .int .i64 0] 35))
      by_cases hk0 : k = 0
      · subst hk0
        simp only [Nat.zero_mul, Nat.add_zero] at c0 c1 c2 c3 c4 c5 c6 c7 c8 c9 c10
        have HJ2 : Hid (joinN ts (0 + 1) = joinN ts 0 ++ tt.data.toList) := (join_if HJ.out HA.out).2 rfl
        have hcat : ∀ W : World, (Op.stringOp .add ⟨(joinN ts 0).toArray⟩ tt).run Tryd.prog W = .ok (.string ⟨(joinN ts (0 + 1)).toArray⟩) W := fun W => by
          rw [run_string_add_sum W _ _ (by show (joinN ts 0).toArray.size + _ ≤ _; simp; omega), HJ2.out]
          congr 2
          first | done | (apply ByteArray.ext; apply Array.ext'; rw [ByteArray.data_append, Array.toList_append]; simp)
        clear HA HJ
        go_wp2_with fail
        generalize wr.alloc (.cells #[.int .i64 tk, .string tt, .bool tsp, .bool tfi, .int .i64 tf, .int .i64 tl, .int .i64 th, .int .i64 tn, .slice none 0 0, .slice none 0 0, .int .i64 0] 35) = WX at HX HB2 HBx ⊢
        have e1 := (block_facts HX.out 1).1
        have e2 := (block_facts HX.out 2).1
        simp at e1 e2
        have z1 := Later.cell e1
        have z2 := Later.cell e2
        have hnn : Nonempty (Later WX) := ⟨⟨_, Below.refl _ _⟩⟩
        refine region_later (by kernel_rfl) (by kernel_rfl) ?_
        repeat (first | go_big_quiet_step (fail) | quiet_step (fail))
        refine wpQuiet_nil ?_
        rintro _ ⟨p, rfl⟩
        have HBp := hid (HB2.out.trans (p.hb.mono HB2.out.size))
        have y1 := Later.cell e1 p
        generalize p.W = wp at HBp y1 ⊢
        clear z1 z2 hnn
        go_wp2_with fail
        exact ⟨⟨0 + 1, by omega, by go_num, rfl, HBp.out⟩, by simp [intOf]; omega⟩
      · obtain ⟨m, rfl⟩ : ∃ m, k = m + 1 := ⟨k - 1, by omega⟩
        clear hk0
        have hm1 : (0 : Int) < (m : Int) + 1 := by omega
        have hm2 : decide ((0 : Int) < (m : Int) + 1) = true := decide_eq_true hm1
        cases tsp with
        | true =>
          have HJ2 : Hid (joinN ts (m + 1 + 1) = (joinN ts (m + 1) ++ [32]) ++ tt.data.toList) := (join_if HJ.out HA.out).1 (by rw [show decide (0 < m + 1) = true from decide_eq_true (by omega)]; rfl)
          have hcat0 : ∀ W : World, (Op.stringOp .add ⟨(joinN ts (m + 1)).toArray⟩ ⟨#[32]⟩).run Tryd.prog W = .ok (.string ⟨(joinN ts (m + 1) ++ [32]).toArray⟩) W := fun W => by
            rw [run_string_add_sum W _ _ (by show (joinN ts (m + 1)).toArray.size + 1 ≤ _; simp; omega)]
            congr 2
            first | done | (apply ByteArray.ext; apply Array.ext'; rw [ByteArray.data_append, Array.toList_append]; simp)
          have hcat : ∀ W : World, (Op.stringOp .add ⟨(joinN ts (m + 1) ++ [32]).toArray⟩ tt).run Tryd.prog W = .ok (.string ⟨(joinN ts ((m + 1) + 1)).toArray⟩) W := fun W => by
            rw [run_string_add_sum W _ _ (by show (joinN ts (m + 1) ++ [32]).toArray.size + _ ≤ _; simp; omega), HJ2.out]
            congr 2
            first | done | (apply ByteArray.ext; apply Array.ext'; rw [ByteArray.data_append, Array.toList_append]; simp)
          clear HA HJ
          go_wp2_with fail
          generalize wr.alloc (.cells #[.int .i64 tk, .string tt, .bool true, .bool tfi, .int .i64 tf, .int .i64 tl, .int .i64 th, .int .i64 tn, .slice none 0 0, .slice none 0 0, .int .i64 0] 35) = WX at HX HB2 HBx ⊢
          have e1 := (block_facts HX.out 1).1
          have e2 := (block_facts HX.out 2).1
          simp at e1 e2
          have z1 := Later.cell e1
          have z2 := Later.cell e2
          have hnn : Nonempty (Later WX) := ⟨⟨_, Below.refl _ _⟩⟩
          refine region_later (by kernel_rfl) (by kernel_rfl) ?_
          repeat (first | go_big_quiet_step (fail) | quiet_step (fail))
          refine wpQuiet_nil ?_
          rintro _ ⟨p, rfl⟩
          have HBp := hid (HB2.out.trans (p.hb.mono HB2.out.size))
          have y1 := Later.cell e1 p
          generalize p.W = wp at HBp y1 ⊢
          clear z1 z2 hnn
          go_wp2_with fail
          exact ⟨⟨m + 1 + 1, by omega, by go_num, rfl, HBp.out⟩, by simp [intOf]; omega⟩
        | false =>
          have hym : ts[m]? = some ts[m] := List.getElem?_eq_getElem (by omega)
          have hcy : wr.cell? ⟨b0, off + m * 11 + 1, none⟩ = some (.string ts[m].text) := (HR.out.cell (p := ⟨b0, _, none⟩) hb0).trans (hc m _ hym 1 _ rfl)
          have hzy := hz ts[m] (List.getElem_mem (by omega))
          rw [show ts.getD (m + 1 - 1) noTk = ts[m] by simp [List.getD, hym]] at HA
          have HS1 := hid (fun W => HS.out ts[m].text tt W (by omega))
          have hwm : IntKind.i64.wrap ((m : Int) + 1 - 1) = (m : Int) := by rw [IntKind.wrap_i64]; omega
          have hm0 : (0 : Int) ≤ (m : Int) := by omega
          have hml : (m : Int) < (ts.length : Int) := by omega
          have hml2 : m < ts.length := by omega
          generalize ts[m].text = yt at hcy HA HS1 hzy
          clear hym
          cases hst : sticksB yt tt with
          | true =>
            rw [hst] at HA HS1
            have HJ2 : Hid (joinN ts (m + 1 + 1) = (joinN ts (m + 1) ++ [32]) ++ tt.data.toList) := (join_if HJ.out HA.out).1 (by rw [show decide (0 < m + 1) = true from decide_eq_true (by omega)]; rfl)
            have hcat0 : ∀ W : World, (Op.stringOp .add ⟨(joinN ts (m + 1)).toArray⟩ ⟨#[32]⟩).run Tryd.prog W = .ok (.string ⟨(joinN ts (m + 1) ++ [32]).toArray⟩) W := fun W => by
              rw [run_string_add_sum W _ _ (by show (joinN ts (m + 1)).toArray.size + 1 ≤ _; simp; omega)]
              congr 2
              first | done | (apply ByteArray.ext; apply Array.ext'; rw [ByteArray.data_append, Array.toList_append]; simp)
            have hcat : ∀ W : World, (Op.stringOp .add ⟨(joinN ts (m + 1) ++ [32]).toArray⟩ tt).run Tryd.prog W = .ok (.string ⟨(joinN ts ((m + 1) + 1)).toArray⟩) W := fun W => by
              rw [run_string_add_sum W _ _ (by show (joinN ts (m + 1) ++ [32]).toArray.size + _ ≤ _; simp; omega), HJ2.out]
              congr 2
              first | done | (apply ByteArray.ext; apply Array.ext'; rw [ByteArray.data_append, Array.toList_append]; simp)
            clear HA HJ hst
            go_wp2_with fail
            generalize wr.alloc (.cells #[.int .i64 tk, .string tt, .bool false, .bool tfi, .int .i64 tf, .int .i64 tl, .int .i64 th, .int .i64 tn, .slice none 0 0, .slice none 0 0, .int .i64 0] 35) = WX at HX HB2 HBx ⊢
            have e1 := (block_facts HX.out 1).1
            have e2 := (block_facts HX.out 2).1
            simp at e1 e2
            have z1 := Later.cell e1
            have z2 := Later.cell e2
            have hnn : Nonempty (Later WX) := ⟨⟨_, Below.refl _ _⟩⟩
            have z3 := Later.cell ((HBx.out.cell (World.block_lt_of_cell? _ _ hcy)).trans hcy)
            have HS2 := hid (fun p : Later WX => HS1.out p.W)
            refine region_later (by kernel_rfl) (by kernel_rfl) ?_
            repeat (first | go_big_quiet_step ((go_at_call 35; exact Calls.later (HS2.out _))) | quiet_step ((go_at_call 35; exact Calls.later (HS2.out _))))
            refine wpQuiet_nil ?_
            rintro _ ⟨p, rfl⟩
            have HBp := hid (HB2.out.trans (p.hb.mono HB2.out.size))
            have y1 := Later.cell e1 p
            generalize p.W = wp at HBp y1 ⊢
            clear z1 z2 z3 hnn
            go_wp2_with fail
            exact ⟨⟨m + 1 + 1, by omega, by go_num, rfl, HBp.out⟩, by simp [intOf]; omega⟩
          | false =>
            rw [hst] at HA HS1
            have HJ2 : Hid (joinN ts (m + 1 + 1) = joinN ts (m + 1) ++ tt.data.toList) := (join_if HJ.out HA.out).2 (by rw [show decide (0 < m + 1) = true from decide_eq_true (by omega)]; rfl)
            have hcat : ∀ W : World, (Op.stringOp .add ⟨(joinN ts (m + 1)).toArray⟩ tt).run Tryd.prog W = .ok (.string ⟨(joinN ts ((m + 1) + 1)).toArray⟩) W := fun W => by
              rw [run_string_add_sum W _ _ (by show (joinN ts (m + 1)).toArray.size + _ ≤ _; simp; omega), HJ2.out]
              congr 2
              first | done | (apply ByteArray.ext; apply Array.ext'; rw [ByteArray.data_append, Array.toList_append]; simp)
            clear HA HJ hst
            go_wp2_with fail
            generalize wr.alloc (.cells #[.int .i64 tk, .string tt, .bool false, .bool tfi, .int .i64 tf, .int .i64 tl, .int .i64 th, .int .i64 tn, .slice none 0 0, .slice none 0 0, .int .i64 0] 35) = WX at HX HB2 HBx ⊢
            have e1 := (block_facts HX.out 1).1
            have e2 := (block_facts HX.out 2).1
            simp at e1 e2
            have z1 := Later.cell e1
            have z2 := Later.cell e2
            have hnn : Nonempty (Later WX) := ⟨⟨_, Below.refl _ _⟩⟩
            have z3 := Later.cell ((HBx.out.cell (World.block_lt_of_cell? _ _ hcy)).trans hcy)
            have HS2 := hid (fun p : Later WX => HS1.out p.W)
            refine region_later (by kernel_rfl) (by kernel_rfl) ?_
            repeat (first | go_big_quiet_step ((go_at_call 35; exact Calls.later (HS2.out _))) | quiet_step ((go_at_call 35; exact Calls.later (HS2.out _))))
            refine wpQuiet_nil ?_
            rintro _ ⟨p, rfl⟩
            have HBp := hid (HB2.out.trans (p.hb.mono HB2.out.size))
            have y1 := Later.cell e1 p
            generalize p.W = wp at HBp y1 ⊢
            clear z1 z2 z3 hnn
            go_wp2_with fail
            exact ⟨⟨m + 1 + 1, by omega, by go_num, rfl, HBp.out⟩, by simp [intOf]; omega⟩
    · obtain rfl : k = ts.length := by omega
      go_wp2_with fail
      go_ret
      exact ⟨rfl, HR.out⟩
end Go.Proofs.YtoedgcpfomgagaaDoor
