/- Walks of the document's own SameToken, SameTokens, Sticks and Join. -/
import Derived.Test.YtijdiadhldkcbabDoorLxJoin
import Derived.Test.YtijdiadhldkcbabDoorLxStand
import Derived.Test.YtijdiadhldkcbabDoorLxRef
namespace Go.Proofs.YtijdiadhldkcbabDoor
open Go.RowKit Go.Shelf

def aggT (t : Tk) : Value := .agg #[.int .i64 t.kind, .string t.text, .bool t.space, .bool t.first, .int .i64 t.file, .int .i64 t.lo, .int .i64 t.hi, .int .i64 t.line, .slice none 0 0, .slice none 0 0, .int .i64 0]
/-- The document's own Tokens. -/
def RToks : Prop := ∀ (file : Int) (s : ByteArray) (w : World), Calls Tryd.prog 9 #[.int .i64 file, .string s] w (TokPost file s.data.toList w)

theorem toks_err (file : Int) (l : List UInt8) (h : (toksF file l).2.1 ≠ 0) : (toksF file l).1 = [] := by
  revert h
  unfold toksF
  split
  · exact fun _ => rfl
  · split
    · exact fun _ => rfl
    · exact fun h => absurd rfl h

set_option maxRecDepth 100000 in
set_option maxHeartbeats 1000000 in
theorem SameToken_any (t : Tk) (w : World) :
    Calls Tryd.prog 41 #[aggT t, aggT t] w fun e w' => e = .returned (.bool true) ∧ Below w.heap.size w w' := by
  obtain ⟨tk, tt, tsp, tfi, tf, tl, th, tn⟩ := t
  unfold aggT
  dsimp only
  go_enter Tryd.func41, Tryd.ntmps41
  go_wp2_with fail
  go_loop [89] (fun x => x = .int .i64 0) (fun _ => 0)
  case atStart => rfl
  case round =>
    subst hrel
    go_wp2_with fail
    go_loop [107] (fun x => x = .int .i64 0) (fun _ => 0)
    case atStart => rfl
    case round =>
      subst hrel
      go_wp2_with fail
      go_ret
      exact ⟨rfl, by repeat' (first | exact Below.refl _ _ | apply Below.drew | apply Below.alloc | simp)⟩

set_option maxRecDepth 100000 in
set_option maxHeartbeats 1000000 in
theorem SameTokens_any (a b : Option Addr) (ca cb : Nat) (ts : List Tk) (w : World) (hA : TAt w a ts) (hB : TAt w b ts) (hl : ts.length ≤ 1048576) :
    Calls Tryd.prog 10 #[.slice a ts.length ca, .slice b ts.length cb] w fun e w' => e = .returned (.bool true) ∧ Below w.heap.size w w' := by
  have HS := hid (fun t W => SameToken_any t W)
  unfold aggT at HS
  go_enter Tryd.func10, Tryd.ntmps10
  go_wp2_with fail
  go_loopw [13] (fun x wr => ∃ k : Nat, k ≤ ts.length ∧ x = .int .i64 k ∧ Hid (Below w.heap.size w wr)) (fun x _ => ts.length - (intOf x).toNat)
  case atStart => exact ⟨0, Nat.zero_le _, rfl, Below.refl _ _⟩
  case round =>
    obtain ⟨k, hk, rfl, HB'⟩ := hrel
    by_cases hlt : k < ts.length
    · rcases hA with h | ⟨ba, oa, rfl, hba, hca⟩
      · rw [h] at hlt; simp at hlt
      rcases hB with h | ⟨bb, ob, rfl, hbb, hcb⟩
      · rw [h] at hlt; simp at hlt
      have hxk : ts[k]? = some ts[k] := List.getElem?_eq_getElem hlt
      have hcx : ∀ i v, (encT ts[k])[i]? = some v → wr.cell? ⟨ba, oa + k * 11 + i, none⟩ = some v := fun i v hv => (HB'.out.cell (p := ⟨ba, _, none⟩) hba).trans (hca k _ hxk i v hv)
      have hcy : ∀ i v, (encT ts[k])[i]? = some v → wr.cell? ⟨bb, ob + k * 11 + i, none⟩ = some v := fun i v hv => (HB'.out.cell (p := ⟨bb, _, none⟩) hbb).trans (hcb k _ hxk i v hv)
      have HS2 := hid (fun p : Later wr => HS.out ts[k] p.W)
      generalize ts[k] = t at hcx hcy HS2
      obtain ⟨tk, tt, tsp, tfi, tf, tl, th, tn⟩ := t
      have c0 := hcx 0 _ rfl
      have c1 := hcx 1 _ rfl
      have c2 := hcx 2 _ rfl
      have c3 := hcx 3 _ rfl
      have c4 := hcx 4 _ rfl
      have c5 := hcx 5 _ rfl
      have c6 := hcx 6 _ rfl
      have c7 := hcx 7 _ rfl
      have c8 := hcx 8 _ rfl
      have c9 := hcx 9 _ rfl
      have c10 := hcx 10 _ rfl
      have d0 := hcy 0 _ rfl
      have d1 := hcy 1 _ rfl
      have d2 := hcy 2 _ rfl
      have d3 := hcy 3 _ rfl
      have d4 := hcy 4 _ rfl
      have d5 := hcy 5 _ rfl
      have d6 := hcy 6 _ rfl
      have d7 := hcy 7 _ rfl
      have d8 := hcy 8 _ rfl
      have d9 := hcy 9 _ rfl
      have d10 := hcy 10 _ rfl
      simp only [Nat.add_zero] at c0 d0
      clear hcx hcy hxk hca hcb
      have z0 := Later.cell c0
      have y0 := Later.cell d0
      have z1 := Later.cell c1
      have y1 := Later.cell d1
      have z2 := Later.cell c2
      have y2 := Later.cell d2
      have z3 := Later.cell c3
      have y3 := Later.cell d3
      have z4 := Later.cell c4
      have y4 := Later.cell d4
      have z5 := Later.cell c5
      have y5 := Later.cell d5
      have z6 := Later.cell c6
      have y6 := Later.cell d6
      have z7 := Later.cell c7
      have y7 := Later.cell d7
      have z8 := Later.cell c8
      have y8 := Later.cell d8
      have z9 := Later.cell c9
      have y9 := Later.cell d9
      have z10 := Later.cell c10
      have y10 := Later.cell d10
      have hnn : Nonempty (Later wr) := ⟨⟨_, Below.refl _ _⟩⟩
      have hki : (k : Int) < (ts.length : Int) := by omega
      have hk0 : (0 : Int) ≤ (k : Int) := by omega
      go_wp2_with fail
      refine region_later (by kernel_rfl) (by kernel_rfl) ?_
      repeat (first | go_big_quiet_step ((go_at_call 41; exact Calls.later (HS2.out _))) | quiet_step ((go_at_call 41; exact Calls.later (HS2.out _))))
      refine wpQuiet_nil ?_
      rintro _ ⟨p, rfl⟩
      have HBp := hid (HB'.out.trans (p.hb.mono HB'.out.size))
      clear z0 y0 z1 y1 z2 y2 z3 y3 z4 y4 z5 y5 z6 y6 z7 y7 z8 y8 z9 y9 z10 y10 hnn HS2
      go_wp2_with fail
      exact ⟨⟨k + 1, by omega, by go_num, HBp.out⟩, by simp [intOf]; omega⟩
    · go_wp2
      go_ret
      exact ⟨rfl, HB'.out⟩

set_option maxRecDepth 100000 in
set_option maxHeartbeats 1000000 in
theorem RSticks_of (hR : RToks) (a b : ByteArray) (w : World) (hs : a.size + b.size ≤ 1048576) :
    Calls Tryd.prog 14 #[.string a, .string b] w fun e w' => e = .returned (.bool (sticksB a b)) ∧ Below w.heap.size w w' := by
  have HT := hid (hR 0 (a ++ b) w)
  rw [cat_data] at HT
  go_enter Tryd.func14, Tryd.ntmps14
  go_wp2_with fail
  refine HT.out.mono ?_
  rintro e w1 ⟨ad, c, rfl, hta, hb1, _⟩
  have HR : Hid (sticksB a b = ((((toksF 0 (a.data.toList ++ b.data.toList)).1.length : Int) != 2) || (((toksF 0 (a.data.toList ++ b.data.toList)).1.getD 0 noTk).text.toList != a.toList) || (((toksF 0 (a.data.toList ++ b.data.toList)).1.getD 1 noTk).text.toList != b.toList))) := rfl
  have HNe := hid (toks_err 0 (a.data.toList ++ b.data.toList))
  generalize (toksF 0 (a.data.toList ++ b.data.toList)).1 = ts at hta HR HNe
  generalize (toksF 0 (a.data.toList ++ b.data.toList)).2 = fl at HNe
  obtain ⟨f0, f1, f2⟩ := fl
  have HB := hid (hb1.alloc hb1.size (.cells #[.int .i64 f0, .int .i64 f1, .int .i64 f2] 25))
  unfold faultV
  dsimp only at HNe
  clear HT hb1
  by_cases hf : f0 = 0
  · subst hf
    clear HNe
    by_cases h2 : ts.length = 2
    · rcases hta with rfl | ⟨b0, off, rfl, hlt, hc⟩
      · simp at h2
      have c0 := hc 0 ts[0] (List.getElem?_eq_getElem (by omega)) 1 _ rfl
      have c1 := hc 1 ts[1] (List.getElem?_eq_getElem (by omega)) 1 _ rfl
      have e0 : ts.getD 0 noTk = ts[0] := by simp [List.getD, h2]
      have e1 : ts.getD 1 noTk = ts[1] := by simp [List.getD, h2]
      rw [e0, e1] at HR
      generalize ts[0] = x at c0 HR
      generalize ts[1] = y at c1 HR
      simp only [Nat.zero_mul, Nat.add_zero, Nat.one_mul] at c0 c1
      have hbn : b0 ≠ w1.heap.size := by omega
      rw [h2] at HR ⊢
      clear hc e0 e1 h2
      go_wp2
      all_goals go_ret
      all_goals (refine ⟨ret_bool ?_, HB.out⟩; rw [HR.out]; simp_all [bne])
    · have hb2 : ((ts.length : Int) != 2) = true := by simp; omega
      have HR2 : Hid (sticksB a b = true) := by show _ = _; rw [HR.out, hb2]; rfl
      clear HR h2 hta
      go_wp2
      go_ret
      exact ⟨ret_bool HR2.out.symm, HB.out⟩
  · have hts := HNe.out hf
    have hfb : (f0 == 0) = false := by simpa using hf
    have hfb2 : (f0 != 0) = true := by simpa using hf
    have HR2 : Hid (sticksB a b = true) := by show _ = _; rw [HR.out, hts]; rfl
    clear HR hta HNe hts
    go_wp2
    go_ret
    exact ⟨ret_bool HR2.out.symm, HB.out⟩

set_option maxRecDepth 100000 in
set_option maxHeartbeats 1000000 in
theorem RJoin_of (hR : RToks) (a : Option Addr) (c : Nat) (ts : List Tk) (w : World) (hT : TAt w a ts) (hl : ts.length ≤ 3000) (hz : ∀ t ∈ ts, t.text.size ≤ 3000) :
    Calls Tryd.prog 16 #[.slice a ts.length c] w fun e w' => e = .returned (.string ⟨(joinL ts).toArray⟩) ∧ Below w.heap.size w w' := by
  have HS := hid (fun x y W hs => RSticks_of hR x y W hs)
  go_enter Tryd.func16, Tryd.ntmps16
  go_wp2_with fail
  go_loopw [3, 8] (fun o x wr => ∃ k : Nat, k ≤ ts.length ∧ x = .int .i64 k ∧ o = .string ⟨(joinN ts k).toArray⟩ ∧ Hid (Below w.heap.size w wr)) (fun _ x _ => ts.length - (intOf x).toNat)
  case atStart => exact ⟨0, Nat.zero_le _, rfl, rfl, Below.refl _ _⟩
  case round =>
    obtain ⟨k, hk, rfl, rfl, HR⟩ := hrel
    by_cases hlt : k < ts.length
    · rcases hT with rfl | ⟨b0, off, rfl, hb0, hc⟩
      · simp at hlt
      have hxk : ts[k]? = some ts[k] := List.getElem?_eq_getElem hlt
      have hcx : ∀ i v, (encT ts[k])[i]? = some v → wr.cell? ⟨b0, off + k * 11 + i, none⟩ = some v := fun i v hv => (HR.out.cell (p := ⟨b0, _, none⟩) hb0).trans (hc k _ hxk i v hv)
      have hzx := hz ts[k] (List.getElem_mem hlt)
      have HJ := hid (joinN_succ ts k)
      have HA : Hid (joinAt ts k = (if 0 < k && (ts[k].space || sticksB (ts.getD (k - 1) noTk).text ts[k].text) then [32] else []) ++ ts[k].text.data.toList) := by
        show _ = _
        unfold joinAt
        rw [show ts.getD k noTk = ts[k] by simp [List.getD, hxk]]
      have hle : (joinN ts k).length ≤ 3000 * 3001 := Nat.le_trans (joinN_le ts 3000 hz k hk) (Nat.mul_le_mul (by omega) (Nat.le_refl _))
      generalize ts[k] = t at hcx hzx HA
      obtain ⟨tk, tt, tsp, tfi, tf, tl, th, tn⟩ := t
      have c0 := hcx 0 _ rfl
      have c1 := hcx 1 _ rfl
      have c2 := hcx 2 _ rfl
      have c3 := hcx 3 _ rfl
      have c4 := hcx 4 _ rfl
      have c5 := hcx 5 _ rfl
      have c6 := hcx 6 _ rfl
      have c7 := hcx 7 _ rfl
      have c8 := hcx 8 _ rfl
      have c9 := hcx 9 _ rfl
      have c10 := hcx 10 _ rfl
      simp only [Nat.add_zero] at c0
      dsimp only at hzx HA
      clear hcx hxk
      have HX := hid (heap_alloc_new wr (.cells #[.int .i64 tk, .string tt, .bool tsp, .bool tfi, .int .i64 tf, .int .i64 tl, .int .i64 th, .int .i64 tn, .slice none 0 0, .slice none 0 0, .int .i64 0] 37))
      have HB2 := hid (HR.out.alloc HR.out.size (.cells #[.int .i64 tk, .string tt, .bool tsp, .bool tfi, .int .i64 tf, .int .i64 tl, .int .i64 th, .int .i64 tn, .slice none 0 0, .slice none 0 0, .int .i64 0] 37))
      have HBx := hid ((Below.refl wr.heap.size wr).alloc (Nat.le_refl _) (.cells #[.int .i64 tk, .string tt, .bool tsp, .bool tfi, .int .i64 tf, .int .i64 tl, .int .i64 th, .int .i64 tn, .slice none 0 0, .slice none 0 0, .int .i64 0] 37))
      by_cases hk0 : k = 0
      · subst hk0
        simp only [Nat.zero_mul, Nat.add_zero] at c0 c1 c2 c3 c4 c5 c6 c7 c8 c9 c10
        have HJ2 : Hid (joinN ts (0 + 1) = joinN ts 0 ++ tt.data.toList) := (join_if HJ.out HA.out).2 rfl
        have hcat : ∀ W : World, (Op.stringOp .add ⟨(joinN ts 0).toArray⟩ tt).run Tryd.prog W = .ok (.string ⟨(joinN ts (0 + 1)).toArray⟩) W := fun W => by
          rw [run_string_add_sum W _ _ (by show (joinN ts 0).toArray.size + _ ≤ _; simp; omega), HJ2.out]
          congr 2
          first | done | (apply ByteArray.ext; apply Array.ext'; rw [ByteArray.data_append, Array.toList_append]; simp)
        clear HA HJ
        go_wp2_with fail
        generalize wr.alloc (.cells #[.int .i64 tk, .string tt, .bool tsp, .bool tfi, .int .i64 tf, .int .i64 tl, .int .i64 th, .int .i64 tn, .slice none 0 0, .slice none 0 0, .int .i64 0] 37) = WX at HX HB2 HBx ⊢
        have e1 := (block_facts HX.out 1).1
        have e2 := (block_facts HX.out 2).1
        simp at e1 e2
        have z1 := Later.cell e1
        have z2 := Later.cell e2
        have hnn : Nonempty (Later WX) := ⟨⟨_, Below.refl _ _⟩⟩
        refine region_later (by kernel_rfl) (by kernel_rfl) ?_
        repeat (first | go_big_quiet_step (fail) | quiet_step (fail))
        refine wpQuiet_nil ?_
        rintro _ ⟨p, rfl⟩
        have HBp := hid (HB2.out.trans (p.hb.mono HB2.out.size))
        have y1 := Later.cell e1 p
        generalize p.W = wp at HBp y1 ⊢
        clear z1 z2 hnn
        go_wp2_with fail
        exact ⟨⟨0 + 1, by omega, by go_num, rfl, HBp.out⟩, by simp [intOf]; omega⟩
      · obtain ⟨m, rfl⟩ : ∃ m, k = m + 1 := ⟨k - 1, by omega⟩
        clear hk0
        have hm1 : (0 : Int) < (m : Int) + 1 := by omega
        have hm2 : decide ((0 : Int) < (m : Int) + 1) = true := decide_eq_true hm1
        cases tsp with
        | true =>
          have HJ2 : Hid (joinN ts (m + 1 + 1) = (joinN ts (m + 1) ++ [32]) ++ tt.data.toList) := (join_if HJ.out HA.out).1 (by rw [show decide (0 < m + 1) = true from decide_eq_true (by omega)]; rfl)
          have hcat0 : ∀ W : World, (Op.stringOp .add ⟨(joinN ts (m + 1)).toArray⟩ ⟨#[32]⟩).run Tryd.prog W = .ok (.string ⟨(joinN ts (m + 1) ++ [32]).toArray⟩) W := fun W => by
            rw [run_string_add_sum W _ _ (by show (joinN ts (m + 1)).toArray.size + 1 ≤ _; simp; omega)]
            congr 2
            first | done | (apply ByteArray.ext; apply Array.ext'; rw [ByteArray.data_append, Array.toList_append]; simp)
          have hcat : ∀ W : World, (Op.stringOp .add ⟨(joinN ts (m + 1) ++ [32]).toArray⟩ tt).run Tryd.prog W = .ok (.string ⟨(joinN ts ((m + 1) + 1)).toArray⟩) W := fun W => by
            rw [run_string_add_sum W _ _ (by show (joinN ts (m + 1) ++ [32]).toArray.size + _ ≤ _; simp; omega), HJ2.out]
            congr 2
            first | done | (apply ByteArray.ext; apply Array.ext'; rw [ByteArray.data_append, Array.toList_append]; simp)
          clear HA HJ
          go_wp2_with fail
          generalize wr.alloc (.cells #[.int .i64 tk, .string tt, .bool true, .bool tfi, .int .i64 tf, .int .i64 tl, .int .i64 th, .int .i64 tn, .slice none 0 0, .slice none 0 0, .int .i64 0] 37) = WX at HX HB2 HBx ⊢
          have e1 := (block_facts HX.out 1).1
          have e2 := (block_facts HX.out 2).1
          simp at e1 e2
          have z1 := Later.cell e1
          have z2 := Later.cell e2
          have hnn : Nonempty (Later WX) := ⟨⟨_, Below.refl _ _⟩⟩
          refine region_later (by kernel_rfl) (by kernel_rfl) ?_
          repeat (first | go_big_quiet_step (fail) | quiet_step (fail))
          refine wpQuiet_nil ?_
          rintro _ ⟨p, rfl⟩
          have HBp := hid (HB2.out.trans (p.hb.mono HB2.out.size))
          have y1 := Later.cell e1 p
          generalize p.W = wp at HBp y1 ⊢
          clear z1 z2 hnn
          go_wp2_with fail
          exact ⟨⟨m + 1 + 1, by omega, by go_num, rfl, HBp.out⟩, by simp [intOf]; omega⟩
        | false =>
          have hym : ts[m]? = some ts[m] := List.getElem?_eq_getElem (by omega)
          have hcy : wr.cell? ⟨b0, off + m * 11 + 1, none⟩ = some (.string ts[m].text) := (HR.out.cell (p := ⟨b0, _, none⟩) hb0).trans (hc m _ hym 1 _ rfl)
          have hzy := hz ts[m] (List.getElem_mem (by omega))
          rw [show ts.getD (m + 1 - 1) noTk = ts[m] by simp [List.getD, hym]] at HA
          have HS1 := hid (fun W => HS.out ts[m].text tt W (by omega))
          have hwm : IntKind.i64.wrap ((m : Int) + 1 - 1) = (m : Int) := by rw [IntKind.wrap_i64]; omega
          have hm0 : (0 : Int) ≤ (m : Int) := by omega
          have hml : (m : Int) < (ts.length : Int) := by omega
          have hml2 : m < ts.length := by omega
          generalize ts[m].text = yt at hcy HA HS1 hzy
          clear hym
          cases hst : sticksB yt tt with
          | true =>
            rw [hst] at HA HS1
            have HJ2 : Hid (joinN ts (m + 1 + 1) = (joinN ts (m + 1) ++ [32]) ++ tt.data.toList) := (join_if HJ.out HA.out).1 (by rw [show decide (0 < m + 1) = true from decide_eq_true (by omega)]; rfl)
            have hcat0 : ∀ W : World, (Op.stringOp .add ⟨(joinN ts (m + 1)).toArray⟩ ⟨#[32]⟩).run Tryd.prog W = .ok (.string ⟨(joinN ts (m + 1) ++ [32]).toArray⟩) W := fun W => by
              rw [run_string_add_sum W _ _ (by show (joinN ts (m + 1)).toArray.size + 1 ≤ _; simp; omega)]
              congr 2
              first | done | (apply ByteArray.ext; apply Array.ext'; rw [ByteArray.data_append, Array.toList_append]; simp)
            have hcat : ∀ W : World, (Op.stringOp .add ⟨(joinN ts (m + 1) ++ [32]).toArray⟩ tt).run Tryd.prog W = .ok (.string ⟨(joinN ts ((m + 1) + 1)).toArray⟩) W := fun W => by
              rw [run_string_add_sum W _ _ (by show (joinN ts (m + 1) ++ [32]).toArray.size + _ ≤ _; simp; omega), HJ2.out]
              congr 2
              first | done | (apply ByteArray.ext; apply Array.ext'; rw [ByteArray.data_append, Array.toList_append]; simp)
            clear HA HJ hst
            go_wp2_with fail
            generalize wr.alloc (.cells #[.int .i64 tk, .string tt, .bool false, .bool tfi, .int .i64 tf, .int .i64 tl, .int .i64 th, .int .i64 tn, .slice none 0 0, .slice none 0 0, .int .i64 0] 37) = WX at HX HB2 HBx ⊢
            have e1 := (block_facts HX.out 1).1
            have e2 := (block_facts HX.out 2).1
            simp at e1 e2
            have z1 := Later.cell e1
            have z2 := Later.cell e2
            have hnn : Nonempty (Later WX) := ⟨⟨_, Below.refl _ _⟩⟩
            have z3 := Later.cell ((HBx.out.cell (World.block_lt_of_cell? _ _ hcy)).trans hcy)
            have HS2 := hid (fun p : Later WX => HS1.out p.W)
            refine region_later (by kernel_rfl) (by kernel_rfl) ?_
            repeat (first | go_big_quiet_step ((go_at_call 14; exact Calls.later (HS2.out _))) | quiet_step ((go_at_call 14; exact Calls.later (HS2.out _))))
            refine wpQuiet_nil ?_
            rintro _ ⟨p, rfl⟩
            have HBp := hid (HB2.out.trans (p.hb.mono HB2.out.size))
            have y1 := Later.cell e1 p
            generalize p.W = wp at HBp y1 ⊢
            clear z1 z2 z3 hnn
            go_wp2_with fail
            exact ⟨⟨m + 1 + 1, by omega, by go_num, rfl, HBp.out⟩, by simp [intOf]; omega⟩
          | false =>
            rw [hst] at HA HS1
            have HJ2 : Hid (joinN ts (m + 1 + 1) = joinN ts (m + 1) ++ tt.data.toList) := (join_if HJ.out HA.out).2 (by rw [show decide (0 < m + 1) = true from decide_eq_true (by omega)]; rfl)
            have hcat : ∀ W : World, (Op.stringOp .add ⟨(joinN ts (m + 1)).toArray⟩ tt).run Tryd.prog W = .ok (.string ⟨(joinN ts ((m + 1) + 1)).toArray⟩) W := fun W => by
              rw [run_string_add_sum W _ _ (by show (joinN ts (m + 1)).toArray.size + _ ≤ _; simp; omega), HJ2.out]
              congr 2
              first | done | (apply ByteArray.ext; apply Array.ext'; rw [ByteArray.data_append, Array.toList_append]; simp)
            clear HA HJ hst
            go_wp2_with fail
            generalize wr.alloc (.cells #[.int .i64 tk, .string tt, .bool false, .bool tfi, .int .i64 tf, .int .i64 tl, .int .i64 th, .int .i64 tn, .slice none 0 0, .slice none 0 0, .int .i64 0] 37) = WX at HX HB2 HBx ⊢
            have e1 := (block_facts HX.out 1).1
            have e2 := (block_facts HX.out 2).1
            simp at e1 e2
            have z1 := Later.cell e1
            have z2 := Later.cell e2
            have hnn : Nonempty (Later WX) := ⟨⟨_, Below.refl _ _⟩⟩
            have z3 := Later.cell ((HBx.out.cell (World.block_lt_of_cell? _ _ hcy)).trans hcy)
            have HS2 := hid (fun p : Later WX => HS1.out p.W)
            refine region_later (by kernel_rfl) (by kernel_rfl) ?_
            repeat (first | go_big_quiet_step ((go_at_call 14; exact Calls.later (HS2.out _))) | quiet_step ((go_at_call 14; exact Calls.later (HS2.out _))))
            refine wpQuiet_nil ?_
            rintro _ ⟨p, rfl⟩
            have HBp := hid (HB2.out.trans (p.hb.mono HB2.out.size))
            have y1 := Later.cell e1 p
            generalize p.W = wp at HBp y1 ⊢
            clear z1 z2 z3 hnn
            go_wp2_with fail
            exact ⟨⟨m + 1 + 1, by omega, by go_num, rfl, HBp.out⟩, by simp [intOf]; omega⟩
    · obtain rfl : k = ts.length := by omega
      go_wp2_with fail
      go_ret
      exact ⟨rfl, HR.out⟩
end Go.Proofs.YtijdiadhldkcbabDoor
