/- The statement SpliceWhere: at every text it returns true. -/
import Derived.Test.YtmonjikjgchloaaSpAlive
import Derived.Test.YtmonjikjgchloaaLater
namespace Go.Proofs.Ytmonjikjgchloaa
open Go.RowKit Go.Shelf

theorem kept_few (l : List UInt8) : (kept l).length ≤ l.length := (went_kept l).few
theorem kept_lt (l : List UInt8) (i : Nat) (h : i < (kept l).length) : (kept l)[i] < l.length := (went_kept l).rising.2 _ (List.getElem_mem h)
theorem kept_rises (l : List UInt8) (i j : Nat) (hij : i < j) (h : j < (kept l).length) : (kept l)[i] < (kept l)[j] :=
  List.pairwise_iff_getElem.1 (went_kept l).rising.1 i j (by omega) h hij

/-- The list that At holds. -/
def atL (l : List UInt8) : List Nat := kept l ++ [l.length]
theorem atL_length (l : List UInt8) : (atL l).length = (kept l).length + 1 := by simp [atL]
theorem atL_in (l : List UInt8) (i : Nat) (h : i < (kept l).length) : (atL l)[i]? = some (kept l)[i] := by
  simp [atL, List.getElem?_append_left h, h]
theorem atL_last (l : List UInt8) : (atL l)[(kept l).length]? = some l.length := by simp [atL]
theorem atL_rises (l : List UInt8) (i j : Nat) (x y : Nat) (hij : i < j) (hx : (atL l)[i]? = some x) (hy : (atL l)[j]? = some y) : x < y := by
  have hj : j < (atL l).length := (List.getElem?_eq_some_iff.1 hy).1
  rw [atL_length] at hj
  have hi : i < (kept l).length := by omega
  rw [atL_in l i hi] at hx
  cases hx
  by_cases hjl : j < (kept l).length
  · rw [atL_in l j hjl] at hy; cases hy
    exact kept_rises l i j hij hjl
  · obtain rfl : j = (kept l).length := by omega
    rw [atL_last] at hy; cases hy
    exact kept_lt l i hi

theorem atL_where (l : List UInt8) (i x : Nat) (h : (atL l)[i]? = some x) : whereI (atL l) i = x := by
  obtain ⟨hi, rfl⟩ := List.getElem?_eq_some_iff.1 h
  exact (whereI_in _ i hi).symm
theorem atL_back (l : List UInt8) (i x : Nat) (h : (atL l)[i]? = some x) : backI (atL l) x = i := by
  obtain ⟨hi, hx⟩ := List.getElem?_eq_some_iff.1 h
  unfold backI
  rw [if_neg (by omega)]
  refine (firstGe_hit (atL l) x i hi (by rw [hx]; omega) (fun j hj => ?_)).symm
  have := atL_rises l j i _ x hj (List.getElem?_eq_getElem (by omega)) h
  omega

/-- What is joined, as a string. -/
def textB (s : ByteArray) : ByteArray := ⟨(bytesAt s.data.toList (kept s.data.toList)).toArray⟩
theorem textB_size (s : ByteArray) : (textB s).size = (kept s.data.toList).length := by
  show (bytesAt s.data.toList (kept s.data.toList)).toArray.size = _
  simp
theorem textB_at (s : ByteArray) (i : Nat) (h : i < (textB s).size) (k : Nat) (hk : (atL s.data.toList)[i]? = some k) (hks : k < s.size) : (textB s)[i] = s[k] := by
  have hi : i < (kept s.data.toList).length := by rw [textB_size] at h; exact h
  rw [atL_in _ i hi] at hk
  cases hk
  show (bytesAt s.data.toList (kept s.data.toList)).toArray[i]'(by simpa using hi) = _
  simp only [List.getElem_toArray, bytesAt, List.getElem_map]
  have : (kept s.data.toList)[i] < s.data.toList.length := by rw [size_data]; exact hks
  rw [List.getD, List.getElem?_eq_getElem this]
  rfl

theorem IAt.cell {w : World} {b : Nat} {l : List Nat} (h : IAt w b l) {i x : Nat} (hx : l[i]? = some x) : w.cell? ⟨b, i, none⟩ = some (.int .i64 (x : Int)) := by
  obtain ⟨hi, rfl⟩ := List.getElem?_eq_some_iff.1 hx
  exact h.2 i hi

theorem three_keep {w w' : World} {p q r : Addr} {u v x : Value} (h0 : w.cell? p = some u) (h1 : w.cell? q = some v) (h2 : w.cell? r = some x) (hb : Below w.heap.size w w') : w'.cell? p = some u ∧ w'.cell? q = some v ∧ w'.cell? r = some x :=
  ⟨(hb.cell (World.block_lt_of_cell? _ _ h0)).trans h0, (hb.cell (World.block_lt_of_cell? _ _ h1)).trans h1, (hb.cell (World.block_lt_of_cell? _ _ h2)).trans h2⟩

set_option maxRecDepth 100000 in
set_option maxHeartbeats 1000000 in
theorem Where_walk (s : ByteArray) (w : World) (hs : s.size ≤ 1048576) :
    Calls Try.prog 4 #[.string s] w fun e w' => e = .returned (.bool true) ∧ Below w.heap.size w w' := by
  have HAl := hid (alive_any w)
  have hfew : (textB s).size ≤ s.size := by rw [textB_size, ← size_data]; exact kept_few _
  have HT := hid (fun w => Text_any s w hs)
  have HL := hid (atL_length s.data.toList)
  have HLt := hid (atL_last s.data.toList)
  change Hid (∀ w, Calls Try.prog 5 #[.string s] w fun e w' => ∃ b c, e = .returned (.agg #[.string (textB s), .slice (some ⟨b, 0, none⟩) ((kept s.data.toList).length + 1) c]) ∧ IAt w' b (kept s.data.toList ++ [s.size]) ∧ Below w.heap.size w w') at HT
  rw [← size_data s] at HT
  change Hid (∀ w, Calls Try.prog 5 #[.string s] w fun e w' => ∃ b c, e = .returned (.agg #[.string (textB s), .slice (some ⟨b, 0, none⟩) ((kept s.data.toList).length + 1) c]) ∧ IAt w' b (atL s.data.toList) ∧ Below w.heap.size w w') at HT
  rw [← textB_size] at HT HL HLt
  rw [size_data] at HLt
  have HA := hid (fun i k h hk hks => textB_at s i h k hk hks)
  have HRi := hid (atL_rises s.data.toList)
  have HWh := hid (atL_where s.data.toList)
  have HBk := hid (atL_back s.data.toList)
  generalize atL s.data.toList = A at *
  generalize textB s = T at *
  go_enter Try.func4, Try.ntmps4
  go_wp2_with fail
  refine HAl.out.mono ?_
  rintro e w1 ⟨rfl, hb1⟩
  have HB1 := hid hb1
  clear hb1
  go_wp2_with fail
  refine (HT.out w1).mono ?_
  rintro e w2 ⟨b, c, rfl, hI, hb2⟩
  have HI := hid hI
  have HB2 := hid (HB1.out.trans (hb2.mono HB1.out.size))
  have hcl := hI.cell HLt.out
  have hbl := hI.1
  have hne : b ≠ w2.heap.size := by omega
  clear hI hb2 HB1
  go_wp2_with fail
  go_loopw [33] (fun x wr => ∃ i : Nat, i ≤ T.size ∧ x = .int .i64 i ∧ Hid (Below w2.heap.size w2 wr ∧ wr.cell? ⟨w2.heap.size, 0, none⟩ = some (.string T) ∧ wr.cell? ⟨w2.heap.size, 1, none⟩ = some (.slice (some ⟨b, 0, none⟩) (T.size + 1) c) ∧ w2.heap.size < wr.heap.size)) (fun x _ => T.size - (intOf x).toNat)
  case atStart => exact ⟨0, Nat.zero_le _, rfl, after_box (Below.refl _ _)⟩
  case round =>
    obtain ⟨i, hi, rfl, HX⟩ := hrel
    obtain ⟨_, hx0, hx1, hxs⟩ := HX.out
    clear hcl
    by_cases hlt : i < T.size
    · obtain ⟨k, hk⟩ : ∃ k, A[i]? = some k := ⟨A[i]'(by rw [HL.out]; omega), List.getElem?_eq_getElem _⟩
      obtain ⟨k2, hk2⟩ : ∃ k2, A[i + 1]? = some k2 := ⟨A[i + 1]'(by rw [HL.out]; omega), List.getElem?_eq_getElem _⟩
      have hks : k < s.size := HRi.out i T.size k s.size hlt hk HLt.out
      have hkk : k < k2 := HRi.out i (i + 1) k k2 (by omega) hk hk2
      have hby : T[i] = s[k] := HA.out i k hlt hk hks
      have HW := hid (fun W (h : Below w2.heap.size w2 W) => Where_any T b c A i W (HI.out.below h))
      have HK := hid (fun W (h : Below w2.heap.size w2 W) => Back_any T b c A k W (HI.out.below h) (by rw [HL.out]; omega))
      rw [HWh.out i k hk, HL.out] at HW
      rw [HBk.out i k hk, HL.out] at HK
      have HC2 := hid (fun W (h : Below w2.heap.size w2 W) => (HI.out.below h).cell hk2)
      clear hk hk2
      go_wp2_with fail
      refine (HW.out _ HX.out.1).mono ?_
      rintro e w3 ⟨rfl, hb3⟩
      have HX3 := hid (box_on HX.out hb3)
      obtain ⟨_, hx0, hx1, hxs⟩ := HX3.out
      have hc2 := HC2.out w3 HX3.out.1
      clear hb3
      go_wp2_with fail
      have hwr : IntKind.i64.wrap ((i : Int) + 1) = (i : Int) + 1 := by rw [IntKind.wrap_i64]; omega
      have hi0 : (0 : Int) ≤ (i : Int) + 1 := by omega
      have hi1 : (i : Int) + 1 < (T.size : Int) + 1 := by omega
      have hk0 : (0 : Int) ≤ (k : Int) := by omega
      have hk1 : (k : Int) < (s.size : Int) := by omega
      have hk3 : (k : Int) < (k2 : Int) := by omega
      have hl0 := Later.cell hx0
      have hl1 := Later.cell hx1
      have hl2 := Later.cell hc2
      have HK3 := hid (fun p : Later w3 => HK.out p.W (HX3.out.1.trans (p.hb.mono HX3.out.1.size)))
      clear hx0 hx1 hc2
      have hnn : Nonempty (Later w3) := ⟨⟨w3, Below.refl _ _⟩⟩
      refine region_later (by kernel_rfl) (by kernel_rfl) ?_
      repeat (quiet_step (first | (go_at_call 10; exact Calls.later (HK3.out _))))
      refine wpQuiet_nil ?_
      rintro _ ⟨p, rfl⟩
      have HX4 := hid (box_on HX3.out p.hb)
      go_wp2_with fail
      go_roundw
      case rel => exact ⟨i + 1, by omega, by go_num, HX4.out⟩
      case measure => simp [intOf]; omega
    · go_wp2_with fail
      go_ret
      exact ⟨rfl, HB2.out.trans (HX.out.1.mono HB2.out.size)⟩
end Go.Proofs.Ytmonjikjgchloaa
