/- Walks of Sticks and Join. -/
import Derived.Test.YtoedgcpfomgagaaDoorLxTokens
import Derived.Test.YtoedgcpfomgagaaDoorLxBuild
namespace Go.Proofs.YtoedgcpfomgagaaDoor
open Go.RowKit Go.Shelf

def noTk : Tk := ⟨0, ⟨#[]⟩, false, false, 0, 0, 0, 0⟩
/-- Whether a, with b right behind, is read as anything but these two. -/
def sticksB (a b : ByteArray) : Bool :=
  (((toksF 0 (a.data.toList ++ b.data.toList)).1.length : Int) != 2) || (((toksF 0 (a.data.toList ++ b.data.toList)).1.getD 0 noTk).text.toList != a.toList) || (((toksF 0 (a.data.toList ++ b.data.toList)).1.getD 1 noTk).text.toList != b.toList)

theorem cat_data (a b : ByteArray) : (a ++ b).data.toList = a.data.toList ++ b.data.toList := by simp [ByteArray.data_append]

set_option maxRecDepth 100000 in
set_option maxHeartbeats 1000000 in
theorem Sticks_any (a b : ByteArray) (w : World) (hE : Env w) (hs : a.size + b.size ≤ 1048576) :
    Calls Tryd.prog 53 #[.string a, .string b] w fun e w' => e = .returned (.bool (sticksB a b)) ∧ Below w.heap.size w w' := by
  have HT := hid (Tokens_any 0 (a ++ b) w hE)
  rw [cat_data] at HT
  go_enter Tryd.func53, Tryd.ntmps53
  go_wp2_with fail
  refine HT.out.mono ?_
  rintro e w1 ⟨ad, c, rfl, hta, hb1, _⟩
  have HR : Hid (sticksB a b = ((((toksF 0 (a.data.toList ++ b.data.toList)).1.length : Int) != 2) || (((toksF 0 (a.data.toList ++ b.data.toList)).1.getD 0 noTk).text.toList != a.toList) || (((toksF 0 (a.data.toList ++ b.data.toList)).1.getD 1 noTk).text.toList != b.toList))) := rfl
  generalize (toksF 0 (a.data.toList ++ b.data.toList)).1 = ts at hta HR
  generalize (toksF 0 (a.data.toList ++ b.data.toList)).2 = fl
  obtain ⟨f0, f1, f2⟩ := fl
  have HB := hid (hb1.alloc hb1.size (.cells #[.int .i64 f0, .int .i64 f1, .int .i64 f2] 24))
  unfold faultV
  clear HT hb1
  by_cases h2 : ts.length = 2
  · rcases hta with rfl | ⟨b0, off, rfl, hlt, hc⟩
    · simp at h2
    have c0 := hc 0 ts[0] (List.getElem?_eq_getElem (by omega)) 1 _ rfl
    have c1 := hc 1 ts[1] (List.getElem?_eq_getElem (by omega)) 1 _ rfl
    have e0 : ts.getD 0 noTk = ts[0] := by simp [List.getD, h2]
    have e1 : ts.getD 1 noTk = ts[1] := by simp [List.getD, h2]
    rw [e0, e1] at HR
    generalize ts[0] = x at c0 HR
    generalize ts[1] = y at c1 HR
    simp only [Nat.zero_mul, Nat.add_zero, Nat.one_mul] at c0 c1
    have hbn : b0 ≠ w1.heap.size := by omega
    rw [h2] at HR ⊢
    clear hc e0 e1 h2
    go_wp2
    all_goals go_ret
    all_goals (refine ⟨ret_bool ?_, HB.out⟩; rw [HR.out]; simp_all [bne])
  · have hb2 : ((ts.length : Int) != 2) = true := by simp; omega
    have HR2 : Hid (sticksB a b = true) := by show _ = _; rw [HR.out, hb2]; rfl
    clear HR h2 hta
    go_wp2
    go_ret
    exact ⟨ret_bool HR2.out.symm, HB.out⟩

/-- A token's text in a row of them, with a blank ahead of it where that is wanted. -/
def joinAt (ts : List Tk) (k : Nat) : List UInt8 :=
  (if 0 < k && ((ts.getD k noTk).space || sticksB (ts.getD (k - 1) noTk).text (ts.getD k noTk).text) then [32] else []) ++ (ts.getD k noTk).text.data.toList
def joinN (ts : List Tk) (k : Nat) : List UInt8 := (List.range k).flatMap (joinAt ts)
def joinL (ts : List Tk) : List UInt8 := joinN ts ts.length
theorem joinN_succ (ts : List Tk) (k : Nat) : joinN ts (k + 1) = joinN ts k ++ joinAt ts k := by simp [joinN, List.range_succ]

/-- Not much longer than so many texts. -/
theorem joinN_le (ts : List Tk) (M : Nat) (h : ∀ t ∈ ts, t.text.size ≤ M) : ∀ k, k ≤ ts.length → (joinN ts k).length ≤ k * (M + 1)
  | 0, _ => by simp [joinN]
  | k + 1, hk => by
    have ih := joinN_le ts M h k (by omega)
    have ht : (ts.getD k noTk).text.data.toList.length ≤ M := by
      rw [List.getD, List.getElem?_eq_getElem (by omega), size_data]; exact h _ (List.getElem_mem (by omega))
    rw [joinN_succ, List.length_append, joinAt, List.length_append, Nat.add_mul]
    split <;> simp at * <;> omega

theorem join_if {J1 J0 A tt : List UInt8} {b : Bool} (h : J1 = J0 ++ A) (hA : A = (if b then [32] else []) ++ tt) : (b = true → J1 = (J0 ++ [32]) ++ tt) ∧ (b = false → J1 = J0 ++ tt) := by
  subst hA
  refine ⟨fun e => ?_, fun e => ?_⟩
  · subst e; rw [h]; simp
  · subst e; rw [h]; simp

set_option maxRecDepth 100000 in
set_option maxHeartbeats 1000000 in
theorem Join_any (a : Option Addr) (c : Nat) (ts : List Tk) (w : World) (hE : Env w) (hT : TAt w a ts) (hl : ts.length ≤ 1048576) (hz : ∀ t ∈ ts, t.text.size ≤ 100000) :
    Calls Tryd.prog 34 #[.slice a ts.length c] w fun e w' => e = .returned (.string ⟨(joinL ts).toArray⟩) ∧ Below w.heap.size w w' := by
  have HW1 := hid (fun l s W h1 h2 h3 => WriteString_any w.heap.size w.heap.size l s W h1 h2 h3)
  have HW2 : Hid (∀ l W, Lib.IsBuilder 39 5 w.heap.size w.heap.size (Lib.byteCells l) W → l.length + 1 ≤ 140737488355328 → w.heap.size ≤ W.heap.size → Calls Tryd.prog 54 #[.pointer (some ⟨w.heap.size, 0, none⟩), .int .u8 32] W fun e w' => (∃ v, e = .returned v) ∧ Lib.IsBuilder 39 5 w.heap.size w.heap.size (Lib.byteCells (l ++ [32])) w' ∧ Below w.heap.size W w' ∧
      (∀ k cs t fr, W.heap[k]? = some (.cells cs t fr) → t ≠ 5 → k ≠ w.heap.size → w'.heap[k]? = some (.cells cs t fr))) := fun l W h1 h2 h3 => WriteByte_any w.heap.size w.heap.size l 32 W h1 h2 h3
  have HSt := hid (fun l W h1 h2 => Tryd.Builder_String_any w.heap.size w.heap.size l W h1 h2)
  have HS := hid (fun x y W hE hs => Sticks_any x y W hE hs)
  have hBl := Lib.fresh_isBuilder 39 5 w
  go_enter Tryd.func34, Tryd.ntmps34
  go_wp2_with fail
  go_loopw [8] (fun x wr => ∃ k : Nat, k ≤ ts.length ∧ x = .int .i64 k ∧ Hid (Below w.heap.size w wr ∧ Lib.IsBuilder 39 5 w.heap.size w.heap.size (Lib.byteCells (joinN ts k)) wr)) (fun x _ => ts.length - (intOf x).toNat)
  case atStart => exact ⟨0, Nat.zero_le _, rfl, (Below.refl _ _).alloc (Nat.le_refl _) _, hBl⟩
  case round =>
    clear hBl
    obtain ⟨k, hk, rfl, HR⟩ := hrel
    by_cases hlt : k < ts.length
    · rcases hT with rfl | ⟨b0, off, rfl, hb0, hc⟩
      · simp at hlt
      have hxk : ts[k]? = some ts[k] := List.getElem?_eq_getElem hlt
      have hcx : ∀ i v, (encT ts[k])[i]? = some v → wr.cell? ⟨b0, off + k * 11 + i, none⟩ = some v := fun i v hv => (HR.out.1.cell (p := ⟨b0, _, none⟩) hb0).trans (hc k _ hxk i v hv)
      have hzx := hz ts[k] (List.getElem_mem hlt)
      have HJ := hid (joinN_succ ts k)
      have HA : Hid (joinAt ts k = (if 0 < k && (ts[k].space || sticksB (ts.getD (k - 1) noTk).text ts[k].text) then [32] else []) ++ ts[k].text.data.toList) := by
        show _ = _
        unfold joinAt
        rw [show ts.getD k noTk = ts[k] by simp [List.getD, hxk]]
      have hle : (joinN ts k).length ≤ 1000000000000 := Nat.le_trans (joinN_le ts 100000 hz k hk) (by omega)
      have HLe := hid hle
      clear hle
      generalize ts[k] = t at hcx hzx HA
      obtain ⟨tk, tt, tsp, tfi, tf, tl, th, tn⟩ := t
      have c0 := hcx 0 _ rfl
      have c1 := hcx 1 _ rfl
      have c2 := hcx 2 _ rfl
      have c3 := hcx 3 _ rfl
      have c4 := hcx 4 _ rfl
      have c5 := hcx 5 _ rfl
      have c6 := hcx 6 _ rfl
      have c7 := hcx 7 _ rfl
      have c8 := hcx 8 _ rfl
      have c9 := hcx 9 _ rfl
      have c10 := hcx 10 _ rfl
      simp only [Nat.add_zero] at c0
      dsimp only at hzx HA
      clear hcx hxk
      have HB2 := hid (HR.out.1.alloc HR.out.1.size (.cells #[.int .i64 tk, .string tt, .bool tsp, .bool tfi, .int .i64 tf, .int .i64 tl, .int .i64 th, .int .i64 tn, .slice none 0 0, .slice none 0 0, .int .i64 0] 35))
      have HBu := hid (IsBuilder.alloc HR.out.2 (.cells #[.int .i64 tk, .string tt, .bool tsp, .bool tfi, .int .i64 tf, .int .i64 tl, .int .i64 th, .int .i64 tn, .slice none 0 0, .slice none 0 0, .int .i64 0] 35))
      have HXb := hid (heap_alloc_new wr (.cells #[.int .i64 tk, .string tt, .bool tsp, .bool tfi, .int .i64 tf, .int .i64 tl, .int .i64 th, .int .i64 tn, .slice none 0 0, .slice none 0 0, .int .i64 0] 35))
      have hwx : w.heap.size < wr.heap.size := by
        rcases HR.out.2 with h | h
        · exact h.lt
        · exact h.lt
      have x1 : (wr.alloc (.cells #[.int .i64 tk, .string tt, .bool tsp, .bool tfi, .int .i64 tf, .int .i64 tl, .int .i64 th, .int .i64 tn, .slice none 0 0, .slice none 0 0, .int .i64 0] 35)).cell? ⟨wr.heap.size, 1, none⟩ = some (.string tt) := by rw [World.cell?_alloc_mark]; rfl
      have x2 : (wr.alloc (.cells #[.int .i64 tk, .string tt, .bool tsp, .bool tfi, .int .i64 tf, .int .i64 tl, .int .i64 th, .int .i64 tn, .slice none 0 0, .slice none 0 0, .int .i64 0] 35)).cell? ⟨wr.heap.size, 2, none⟩ = some (.bool tsp) := by rw [World.cell?_alloc_mark]; rfl
      have hp1 : (wr.alloc (.cells #[.int .i64 tk, .string tt, .bool tsp, .bool tfi, .int .i64 tf, .int .i64 tl, .int .i64 th, .int .i64 tn, .slice none 0 0, .slice none 0 0, .int .i64 0] 35)).heap.size = wr.heap.size + 1 := by simp
      have d0 : ∀ (m : Nat) (y : Tk), m < ts.length → ts[m]? = some y → (wr.alloc (.cells #[.int .i64 tk, .string tt, .bool tsp, .bool tfi, .int .i64 tf, .int .i64 tl, .int .i64 th, .int .i64 tn, .slice none 0 0, .slice none 0 0, .int .i64 0] 35)).cell? ⟨b0, off + m * 11 + 1, none⟩ = some (.string y.text) := fun m y _ hy => Lib.cell?_alloc_some _ ((HR.out.1.cell (p := ⟨b0, off + m * 11 + 1, none⟩) hb0).trans (hc m y hy 1 _ rfl))
      have HD0 := hid d0
      have HZ := hid hz
      have HEn := hid hE
      clear d0 HR hc hz hE
      go_wp2_with fail
      generalize wr.alloc (.cells #[.int .i64 tk, .string tt, .bool tsp, .bool tfi, .int .i64 tf, .int .i64 tl, .int .i64 th, .int .i64 tn, .slice none 0 0, .slice none 0 0, .int .i64 0] 35) = WX at HB2 HBu HXb x1 x2 hp1 HD0 ⊢
      have z1 := Later.cell x1
      have z2 := Later.cell x2
      have hnn : Nonempty (Later WX) := ⟨⟨_, Below.refl _ _⟩⟩
      clear x1 x2 c0 c1 c2 c3 c4 c5 c6 c7 c8 c9 c10
      by_cases hk0 : k = 0
      · subst hk0
        have HJ2 : Hid (joinN ts (0 + 1) = joinN ts 0 ++ tt.data.toList) := (join_if HJ.out HA.out).2 (Bool.false_and _)
        clear HJ HA
        rw [show (((0 : Nat) : Int)) = 0 from rfl]
        refine region_later (by kernel_rfl) (by kernel_rfl) ?_
        repeat (first | go_big_quiet_step (fail) | quiet_step (fail))
        refine wpQuiet_nil ?_
        rintro _ ⟨p, rfl⟩
        have hbp := p.hb
        have hB1 := HB2.out.trans (hbp.mono HB2.out.size)
        have hI1 := IsBuilder.below HBu.out hbp
        have hX1 := (hbp.block wr.heap.size (by omega)).trans HXb.out
        have y1 := (block_facts (c := #[.int .i64 tk, .string tt, .bool tsp, .bool tfi, .int .i64 tf, .int .i64 tl, .int .i64 th, .int .i64 tn, .slice none 0 0, .slice none 0 0, .int .i64 0]) hX1 1).1
        simp at y1
        have HV := hid (HW1.out _ tt _ hI1 (by have := HLe.out; omega) hB1.size)
        have HB3 := hid hB1
        clear hbp hB1 hI1 hX1
        go_wp2_with fail
        refine HV.out.mono ?_
        rintro e wC ⟨⟨vC, rfl⟩, hIC, hbC, _⟩
        have HB4 := hid (HB3.out.trans hbC)
        have HI4 := hid hIC
        clear hIC hbC
        go_wp2
        go_roundw
        case rel => exact ⟨0 + 1, by omega, by go_num, HB4.out, by rw [HJ2.out]; exact HI4.out⟩
        case measure => simp [intOf]; omega
      · obtain ⟨m, rfl⟩ : ∃ m, k = m + 1 := ⟨k - 1, by omega⟩
        have hd1 : decide ((0 : Int) < ((m : Int) + 1)) = true := decide_eq_true (by omega)
        push_cast
        cases tsp with
        | true =>
          have HJ2 : Hid (joinN ts (m + 1 + 1) = (joinN ts (m + 1) ++ [32]) ++ tt.data.toList) := (join_if HJ.out HA.out).1 (by rw [show decide (0 < m + 1) = true from decide_eq_true (by omega)]; rfl)
          clear HJ HA
          refine region_later (by kernel_rfl) (by kernel_rfl) ?_
          repeat (first | go_big_quiet_step (fail) | quiet_step (fail))
          refine wpQuiet_nil ?_
          rintro _ ⟨p, rfl⟩
          have hbp := p.hb
          have hB1 := HB2.out.trans (hbp.mono HB2.out.size)
          have hI1 := IsBuilder.below HBu.out hbp
          have hX1 := (hbp.block wr.heap.size (by omega)).trans HXb.out
          have HW := hid (HW2.out _ _ hI1 (by have := HLe.out; omega) hB1.size)
          have HB1 := hid hB1
          have HX1 := hid hX1
          clear hbp hB1 hI1 hX1
          go_wp2_with fail
          refine HW.out.mono ?_
          rintro e wB ⟨⟨vB, rfl⟩, hIB, hbB, hkB⟩
          have hXB := hkB wr.heap.size _ _ _ HX1.out (by decide) (by omega)
          have y1 := (block_facts hXB 1).1
          simp at y1
          have hB2 := HB1.out.trans hbB
          have HV := hid (HW1.out _ tt _ hIB (by have := HLe.out; rw [List.length_append]; simp; omega) hB2.size)
          have HB3 := hid hB2
          clear hIB hbB hkB hXB HW hB2
          go_wp2_with fail
          refine HV.out.mono ?_
          rintro e wC ⟨⟨vC, rfl⟩, hIC, hbC, _⟩
          have HB4 := hid (HB3.out.trans hbC)
          have HI4 := hid hIC
          clear hIC hbC
          go_wp2
          go_roundw
          case rel => exact ⟨m + 1 + 1, by omega, by go_num, HB4.out, by rw [HJ2.out]; exact HI4.out⟩
          case measure => simp [intOf]; omega
        | false =>
          have hym : ts[m]? = some ts[m] := List.getElem?_eq_getElem (by omega)
          have e1 := Later.cell (HD0.out m _ (by omega) hym)
          have hzy := HZ.out ts[m] (List.getElem_mem (by omega))
          rw [show ts.getD (m + 1 - 1) noTk = ts[m] by simp [List.getD, hym]] at HA
          have HS2 := hid (fun p : Later WX => HS.out ts[m].text tt p.W (HEn.out.below (HB2.out.trans (p.hb.mono HB2.out.size))) (by omega))
          have hwm : IntKind.i64.wrap ((m : Int) + 1 - 1) = (m : Int) := by rw [IntKind.wrap_i64]; omega
          have hm0 : (0 : Int) ≤ (m : Int) := by omega
          generalize ts[m].text = yt at e1 HA HS2
          cases hst : sticksB yt tt with
          | true =>
            rw [hst] at HA HS2
            have HJ2 : Hid (joinN ts (m + 1 + 1) = (joinN ts (m + 1) ++ [32]) ++ tt.data.toList) := (join_if HJ.out HA.out).1 (by rw [show decide (0 < m + 1) = true from decide_eq_true (by omega)]; rfl)
            clear HJ HA hst hym
            refine region_later (by kernel_rfl) (by kernel_rfl) ?_
            repeat (first | go_big_quiet_step ((go_at_call 53; exact Calls.later (HS2.out _))) | quiet_step ((go_at_call 53; exact Calls.later (HS2.out _))))
            refine wpQuiet_nil ?_
            rintro _ ⟨p, rfl⟩
            have hbp := p.hb
            have hB1 := HB2.out.trans (hbp.mono HB2.out.size)
            have hI1 := IsBuilder.below HBu.out hbp
            have hX1 := (hbp.block wr.heap.size (by omega)).trans HXb.out
            have HW := hid (HW2.out _ _ hI1 (by have := HLe.out; omega) hB1.size)
            have HB1 := hid hB1
            have HX1 := hid hX1
            clear hbp hB1 hI1 hX1
            go_wp2_with fail
            refine HW.out.mono ?_
            rintro e wB ⟨⟨vB, rfl⟩, hIB, hbB, hkB⟩
            have hXB := hkB wr.heap.size _ _ _ HX1.out (by decide) (by omega)
            have y1 := (block_facts hXB 1).1
            simp at y1
            have hB2 := HB1.out.trans hbB
            have HV := hid (HW1.out _ tt _ hIB (by have := HLe.out; rw [List.length_append]; simp; omega) hB2.size)
            have HB3 := hid hB2
            clear hIB hbB hkB hXB HW hB2
            go_wp2_with fail
            refine HV.out.mono ?_
            rintro e wC ⟨⟨vC, rfl⟩, hIC, hbC, _⟩
            have HB4 := hid (HB3.out.trans hbC)
            have HI4 := hid hIC
            clear hIC hbC
            go_wp2
            go_roundw
            case rel => exact ⟨m + 1 + 1, by omega, by go_num, HB4.out, by rw [HJ2.out]; exact HI4.out⟩
            case measure => simp [intOf]; omega
          | false =>
            rw [hst] at HA HS2
            have HJ2 : Hid (joinN ts (m + 1 + 1) = joinN ts (m + 1) ++ tt.data.toList) := (join_if HJ.out HA.out).2 (by rw [show decide (0 < m + 1) = true from decide_eq_true (by omega)]; rfl)
            clear HJ HA hst hym
            refine region_later (by kernel_rfl) (by kernel_rfl) ?_
            repeat (first | go_big_quiet_step ((go_at_call 53; exact Calls.later (HS2.out _))) | quiet_step ((go_at_call 53; exact Calls.later (HS2.out _))))
            refine wpQuiet_nil ?_
            rintro _ ⟨p, rfl⟩
            have hbp := p.hb
            have hB1 := HB2.out.trans (hbp.mono HB2.out.size)
            have hI1 := IsBuilder.below HBu.out hbp
            have hX1 := (hbp.block wr.heap.size (by omega)).trans HXb.out
            have y1 := (block_facts (c := #[.int .i64 tk, .string tt, .bool false, .bool tfi, .int .i64 tf, .int .i64 tl, .int .i64 th, .int .i64 tn, .slice none 0 0, .slice none 0 0, .int .i64 0]) hX1 1).1
            simp at y1
            have HV := hid (HW1.out _ tt _ hI1 (by have := HLe.out; omega) hB1.size)
            have HB3 := hid hB1
            clear hbp hB1 hI1 hX1
            go_wp2_with fail
            refine HV.out.mono ?_
            rintro e wC ⟨⟨vC, rfl⟩, hIC, hbC, _⟩
            have HB4 := hid (HB3.out.trans hbC)
            have HI4 := hid hIC
            clear hIC hbC
            go_wp2
            go_roundw
            case rel => exact ⟨m + 1 + 1, by omega, by go_num, HB4.out, by rw [HJ2.out]; exact HI4.out⟩
            case measure => simp [intOf]; omega
    · have he : k = ts.length := by omega
      subst he
      have HB := hid HR.out.1
      have HV := hid (HSt.out _ wr HR.out.2 HR.out.1.size)
      clear HR
      go_wp2_with fail
      refine HV.out.mono ?_
      rintro e wC ⟨rfl, hbC⟩
      have HB4 := hid (HB.out.trans hbC)
      clear hbC
      go_wp2
      go_ret
      exact ⟨rfl, HB4.out⟩
end Go.Proofs.YtoedgcpfomgagaaDoor
