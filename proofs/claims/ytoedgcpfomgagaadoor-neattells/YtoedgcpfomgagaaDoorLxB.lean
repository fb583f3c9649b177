/- Walks of numberSize and of what is quoted. · Walk of what is quoted. · Walks of ValidRune, IndexRune and IndexAny at the two bytes that end a path, for whatever bytes. · Walks of pathSize, signSize and blankSize. -/
import Derived.Test.YtoedgcpfomgagaaDoorLxA
import Derived.Test.YtoedgcpfomgagaaDoorLxShelf
import Derived.Laws.RangeAny
import Derived.Laws.Runes
import Derived.Deep.LoopGhost
import Derived.WalkMore
import Derived.Lib.OthersKept
namespace Go.Proofs.YtoedgcpfomgagaaDoor
section
open Go.RowKit Go.Shelf

theorem u8i (c k : UInt8) : (c = k) = ((c.toNat : Int) = (k.toNat : Int)) := by
  apply propext
  constructor
  · intro h; rw [h]
  · intro h; exact UInt8.toNat_inj.1 (by omega)

/-- The same, of the bytes as numbers. -/
theorem numB_int (l : List UInt8) (i : Nat) (c d : UInt8) (hc : byteAt l (i + 1) = c) (hd : byteAt l i = d) :
    numB l (i + 1) = if (c.toNat : Int) = 46 then true else if (c.toNat : Int) = 43 ∨ (c.toNat : Int) = 45 then ((d.toNat : Int) == 101 || (d.toNat : Int) == 69) else wordB c := by
  unfold numB
  rw [hc, Nat.add_sub_cancel, hd]
  simp only [u8i]
  rfl

set_option maxHeartbeats 400000 in
theorem numberSize1_any (s : ByteArray) (B i : Nat) (w : World) (h1 : 1 ≤ i) (hi : i < s.size) (hm : s.size ≤ maxLen) (hB : w.cell? ⟨B, 0, none⟩ = some (.string s)) :
    Calls Tryd.prog 77 #[.int .i64 (i : Int), .pointer (some ⟨B, 0, none⟩)] w fun e w' => e = .returned (.bool (numB s.data.toList i)) ∧ w' = w := by
  unfold maxLen at hm
  obtain ⟨j, rfl⟩ : ∃ j, i = j + 1 := ⟨i - 1, by omega⟩
  have HC := hid (inName_any s[j + 1] w)
  have hj : j < s.size := by omega
  have HN := hid (numB_int s.data.toList j s[j + 1] s[j] (byte_at s (j + 1) hi).symm (byte_at s j hj).symm)
  generalize numB s.data.toList (j + 1) = r at HN ⊢
  go_enter Tryd.func77, Tryd.ntmps77
  go_wp2_with (go_at_call 74; refine HC.out.mono ?_; rintro e w' ⟨rfl, hww⟩; subst w')
  all_goals go_ret
  all_goals (refine ⟨ret_bool ?_, rfl⟩; rw [HN.out]; simp_all)

theorem startsNum_trim (l : List UInt8) : startsNum l = match Lib.trimPrefix l [46] with | [] => false | d :: _ => digB d := by
  cases l with
  | nil => rfl
  | cons c r =>
    by_cases h : c = 46
    · subst h
      simp [startsNum, Lib.trimPrefix, Lib.hasPrefix]
      cases r <;> rfl
    · have h' : ¬ (46 = c) := fun e => h e.symm
      simp [startsNum, Lib.trimPrefix, Lib.hasPrefix, h, h']

set_option maxHeartbeats 400000 in
theorem numberSize_any (s : ByteArray) (w : World) (hs : s.size ≤ maxLen) :
    Calls Tryd.prog 58 #[.string s] w fun e w' => e = .returned (.int .i64 (numSz s.data.toList : Nat)) ∧ Below w.heap.size w w' := by
  have HB := hid ((Below.refl _ w).alloc (Nat.le_refl _) (.cells #[.string s] 9))
  have HT := hid (Tryd.strings_TrimPrefix s ⟨#[46]⟩ (w.alloc (.cells #[.string s] 9)))
  have HS := hid (startsNum_trim s.data.toList)
  generalize hD : (⟨(Lib.trimPrefix s.data.toList (ByteArray.mk #[46]).data.toList).toArray⟩ : ByteArray) = D at HT
  have hDl : Lib.trimPrefix s.data.toList [46] = D.data.toList := by rw [← hD]
  have HS2 : Hid (startsNum s.data.toList = match D.data.toList with | [] => false | d :: _ => digB d) := by show _ = _; rw [HS.out, hDl]
  clear HS hDl hD
  by_cases h0 : D.size = 0
  · obtain rfl := empty_of h0
    have HE : Hid ((0 : Int) = (numSz s.data.toList : Nat)) := by show _ = _; unfold numSz; rw [HS2.out]; rfl
    clear h0
    go_enter Tryd.func58, Tryd.ntmps58
    go_wp2_with (go_at_call 75; refine HT.out.mono ?_; rintro e w' ⟨rfl, hww⟩; subst w')
    go_ret
    exact ⟨ret_int HE.out, HB.out⟩
  · have h1 : 1 ≤ D.size := by omega
    have he := isEmpty_false h1
    have hz : (0 : Int) < (D.size : Int) := by omega
    have HD := hid (fun W => Digit_any D[0] W)
    have HS3 : Hid (startsNum s.data.toList = digB D[0]) := by
      show _ = _
      rw [HS2.out]
      have h2 := size_data D
      rw [byte_at D 0 (by omega)]
      cases hdl : D.data.toList with
      | nil => rw [hdl] at h2; simp at h2; omega
      | cons d r => rfl
    cases hl : digB D[0] with
    | false =>
      rw [hl] at HD HS3
      have HE : Hid ((0 : Int) = (numSz s.data.toList : Nat)) := by show _ = _; unfold numSz; rw [HS3.out]; rfl
      clear hl h0 HS2
      go_enter Tryd.func58, Tryd.ntmps58
      go_wp2_with (first | (go_at_call 75; refine HT.out.mono ?_; rintro e w' ⟨rfl, hww⟩; subst w') | (go_at_call 76; refine (HD.out _).mono ?_; rintro e w' ⟨rfl, hww⟩; subst w'))
      go_ret
      exact ⟨ret_int HE.out, HB.out⟩
    | true =>
      rw [hl] at HD HS3
      have hs1 : 1 ≤ s.size := by
        by_cases hz : s.size = 0
        · obtain rfl := empty_of hz; have := HS3.out; cases this
        · omega
      have HSp := hid (span_any s 77 w.heap.size (numB s.data.toList) (w.alloc (.cells #[.string s] 9)) (enters_of Tryd.func77 (by kernel_rfl) rfl)
        (fun i h hi => numberSize1_any s w.heap.size i _ h hi hs (by rw [World.cell?_alloc_mark]; rfl)) hs1 hs)
      have HE : Hid (((spanN (numB s.data.toList) s.size : Nat) : Int) = (numSz s.data.toList : Nat)) := by show _ = _; unfold numSz; rw [HS3.out, size_data]; rfl
      clear hl h0 HS2
      go_enter Tryd.func58, Tryd.ntmps58
      go_wp2_with (first | (go_at_call 75; refine HT.out.mono ?_; rintro e w' ⟨rfl, hww⟩; subst w') | (go_at_call 76; refine (HD.out _).mono ?_; rintro e w' ⟨rfl, hww⟩; subst w') | (go_at_call 65; refine HSp.out.mono ?_; rintro e w' ⟨rfl, hww⟩; subst w'))
      go_ret
      exact ⟨ret_int HE.out, HB.out⟩
end
section
open Go.RowKit Go.Shelf

theorem below_drewN {B : Nat} {a w : World} (h : Below B a w) (n : Nat) : Below B a (w.drewN n) := h.trans ⟨rfl, rfl, rfl, Nat.le_refl _, fun _ _ => rfl⟩

theorem quotGo_end (q : UInt8) (l : List UInt8) (k : Nat) (h : l.length ≤ k) : quotGo q (l.drop k) k = -1 := by
  rw [List.drop_eq_nil_of_le h]; rfl
theorem quotGo_step (q : UInt8) (l : List UInt8) (k : Nat) (c : UInt8) (h : l[k]? = some c) :
    quotGo q (l.drop k) k = if c = 10 then -1 else if c = q then (k : Int) + 1 else if c = 92 ∧ k + 1 < l.length ∧ byteAt l (k + 1) ≠ 10 then quotGo q (l.drop (k + 2)) (k + 2) else quotGo q (l.drop (k + 1)) (k + 1) := by
  have hk := (List.getElem?_eq_some_iff.1 h).1
  have e1 : l.drop k = c :: l.drop (k + 1) := by
    rw [List.drop_eq_getElem_cons hk]
    congr 1
    exact (List.getElem?_eq_some_iff.1 h).2
  rw [e1]
  by_cases hk1 : k + 1 < l.length
  · have e2 : l.drop (k + 1) = byteAt l (k + 1) :: l.drop (k + 2) := by
      rw [List.drop_eq_getElem_cons hk1]
      congr 1
      exact (byteAt_eq l (k + 1) _ (List.getElem?_eq_getElem hk1)).symm
    rw [e2]
    simp only [quotGo, hk1, true_and]
  · have e2 : l.drop (k + 1) = [] := List.drop_eq_nil_of_le (by omega)
    rw [e2]
    simp [quotGo, hk1]

set_option maxHeartbeats 1000000 in
theorem quoted1_any (s : ByteArray) (q : UInt8) (B : Nat) (w : World) (hs : s.size ≤ maxLen) (hB : w.cell? ⟨B, 0, none⟩ = some (.int .u8 (q.toNat : Int))) :
    Calls Tryd.prog 78 #[.string s, .pointer (some ⟨B, 0, none⟩)] w fun e w' => e = .returned (.int .i64 (quotSz q s.data.toList)) ∧ Below w.heap.size w w' := by
  unfold maxLen at hs
  by_cases h0 : s.size = 0
  · obtain rfl := empty_of h0
    go_enter Tryd.func78, Tryd.ntmps78
    go_wp2_with fail
    go_quiet (fail)
    go_wp2
    go_ret
    exact ⟨rfl, below_drewN (Below.refl _ _) _⟩
  · have h1 : 1 ≤ s.size := by omega
    have he := isEmpty_false h1
    have hz : (0 : Int) < (s.size : Int) := by omega
    have hz2 : 0 < s.size := by omega
    have hq0 : quotSz q s.data.toList = if s[0] = q then quotGo q (s.data.toList.drop 1) 1 else 0 := by
      unfold quotSz
      have h2 := size_data s
      rw [byte_at s 0 (by omega)]
      cases hdl : s.data.toList with
      | nil => rw [hdl] at h2; simp at h2; omega
      | cons d r => rfl
    clear h0
    by_cases hc : s[0] = q
    · rw [if_pos hc] at hq0
      have hne : ((s[0].toNat : Int) != (q.toNat : Int)) = false := by rw [hc]; simp
      have HQ := hid hq0
      clear hq0 hc
      go_enter Tryd.func78, Tryd.ntmps78
      go_wp2_with fail
      go_quiet (fail)
      go_wp2
      have HB0 := hid (below_drewN (Below.refl w.heap.size w) nq)
      clear hne he
      go_loopw [4] (fun x wr => ∃ k : Nat, 1 ≤ k ∧ k ≤ s.size ∧ x = .int .i64 k ∧ Hid (quotSz q s.data.toList = quotGo q (s.data.toList.drop k) k ∧ Below w.heap.size w wr)) (fun x _ => s.size - (intOf x).toNat)
      case atStart => exact ⟨1, Nat.le_refl _, h1, rfl, HQ.out, HB0.out⟩
      case round =>
        obtain ⟨k, hk1, hk, rfl, HR⟩ := hrel
        clear HQ HB0
        by_cases hlt : k < s.size
        · have hst := quotGo_step q s.data.toList k s[k] (by rw [List.getElem?_eq_getElem (by rw [size_data]; exact hlt)]; rfl)
          have HV := hid (HR.out.1.trans hst)
          have HBw := hid HR.out.2
          have hB' : wr.cell? ⟨B, 0, none⟩ = some (.int .u8 (q.toNat : Int)) := (HBw.out.cell (p := ⟨B, 0, none⟩) (World.block_lt_of_cell? _ _ hB)).trans hB
          clear hst HR
          simp only [u8i, Ne, size_data] at HV
          by_cases h10 : (s[k].toNat : Int) = 10
          · have HE := hid (show quotSz q s.data.toList = -1 by rw [HV.out, if_pos (by rw [h10]; rfl)])
            clear HV
            go_wp2
            go_ret
            exact ⟨ret_int (by rw [HE.out]), HBw.out⟩
          · by_cases hcq : (s[k].toNat : Int) = (q.toNat : Int)
            · have HE := hid (show quotSz q s.data.toList = (k : Int) + 1 by rw [HV.out, if_neg (by intro h; exact h10 h), if_pos hcq])
              have hbq : ((s[k].toNat : Int) == (q.toNat : Int)) = true := by simpa using hcq
              have HBn := hid (fun n => below_drewN HBw.out n)
              clear HV hcq
              go_wp2_with fail
              go_quiet (fail)
              go_wp2
              go_ret
              exact ⟨ret_int (by rw [HE.out]), HBn.out _⟩
            · have hbq : ((s[k].toNat : Int) == (q.toNat : Int)) = false := by simpa using hcq
              have HV2 := hid (HV.out.trans ((if_neg (by intro h; exact h10 h)).trans (if_neg hcq)))
              have HBn := hid (fun n => below_drewN HBw.out n)
              clear HV hcq
              by_cases h92 : (s[k].toNat : Int) = 92
              · by_cases hk2 : k + 1 < s.size
                · by_cases hn : (s[k + 1].toNat : Int) = 10
                  · have HE := hid (HV2.out.trans (if_neg (by rintro ⟨_, _, h⟩; exact h (by rw [← byte_at s (k + 1) hk2, hn]; rfl))))
                    go_wp2_with fail
                    go_quiet (fail)
                    go_wp2
                    go_roundw
                    case rel => exact ⟨k + 1, by omega, by omega, by go_num, HE.out, HBn.out _⟩
                    case measure => simp [intOf]; omega
                  · have HE := hid (HV2.out.trans (if_pos ⟨h92, hk2, by rw [← byte_at s (k + 1) hk2]; exact hn⟩))
                    go_wp2_with fail
                    go_quiet (fail)
                    go_wp2
                    go_roundw
                    case rel => exact ⟨k + 2, by omega, by omega, by go_num, HE.out, HBn.out _⟩
                    case measure => simp [intOf]; omega
                · have HE := hid (HV2.out.trans (if_neg (by rintro ⟨_, h, _⟩; exact hk2 h)))
                  have hk3 : ¬ ((k : Int) + 1 < (s.size : Int)) := by omega
                  go_wp2_with fail
                  go_quiet (fail)
                  go_wp2
                  go_roundw
                  case rel => exact ⟨k + 1, by omega, by omega, by go_num, HE.out, HBn.out _⟩
                  case measure => simp [intOf]; omega
              · have HE := hid (HV2.out.trans (if_neg (by rintro ⟨h, _⟩; exact h92 h)))
                go_wp2_with fail
                go_quiet (fail)
                go_wp2
                go_roundw
                case rel => exact ⟨k + 1, by omega, by omega, by go_num, HE.out, HBn.out _⟩
                case measure => simp [intOf]; omega
        · have HE := hid (HR.out.1.trans (quotGo_end q s.data.toList k (by rw [size_data]; omega)))
          have HBw := hid HR.out.2
          clear HR
          go_wp2
          go_ret
          exact ⟨ret_int (by rw [HE.out]), HBw.out⟩
    · rw [if_neg hc] at hq0
      have hne : ((s[0].toNat : Int) != (q.toNat : Int)) = true := by rw [u8i] at hc; simpa using hc
      have HQ := hid hq0
      clear hq0 hc
      go_enter Tryd.func78, Tryd.ntmps78
      go_wp2_with fail
      go_quiet (fail)
      go_wp2
      go_ret
      exact ⟨ret_int (by rw [HQ.out]), below_drewN (Below.refl _ _) _⟩
end
section
open Go.RowKit Go.Shelf

theorem ValidRune_any (r : Int) (w : World) (h0 : 0 ≤ r) :
    Calls Tryd.prog 94 #[.int .i32 r] w fun e w' => e = .returned (.bool (Utf8.valid r)) ∧ w' = w := by
  go_enter Tryd.func94, Tryd.ntmps94
  go_wp2
  all_goals go_ret
  all_goals exact ⟨ret_bool (bool_ext (by simp [Utf8.valid]; omega)), rfl⟩

def endsB : ByteArray := ⟨#[62, 10]⟩

/-- A rune's bytes, beyond those of ASCII: none of them is one of ASCII. -/
theorem decode_bytes (s : ByteArray) (pos : Nat) (h : pos < s.size) (ha : 128 ≤ (s[pos]'h).toNat) : ∀ k, k < (Utf8.decode s pos).2 → pos + k < s.size ∧ 128 ≤ (s.get! (pos + k)).toNat := by
  have hn : ¬ (s[pos]'h).toNat < 128 := by omega
  have h0 : pos + 0 < s.size ∧ 128 ≤ (s.get! (pos + 0)).toNat := by rw [get_at s pos h]; exact ⟨h, ha⟩
  intro k
  simp only [Utf8.decode, get_at s pos h, hn, if_false]
  have one : ∀ j : Nat, j < 1 → pos + j < s.size ∧ 128 ≤ (s.get! (pos + j)).toNat := fun j hj => by
    have : j = 0 := by omega
    subst this
    exact h0
  split
  · rename_i h1
    simp only [Bool.and_eq_true, decide_eq_true_eq, beq_iff_eq] at h1
    split
    · intro hk
      match k, hk with
      | 0, _ => exact h0
      | 1, _ => exact ⟨h1.2.1, by have := h1.2.2; omega⟩
      | k + 2, hk => simp only at hk; omega
    · exact one k
  · split
    · rename_i h1
      simp only [Bool.and_eq_true, decide_eq_true_eq, beq_iff_eq] at h1
      split
      · intro hk
        match k, hk with
        | 0, _ => exact h0
        | 1, _ => exact ⟨h1.1.2.1, by have := h1.1.2.2; omega⟩
        | 2, _ => exact ⟨h1.2.1, by have := h1.2.2; omega⟩
        | k + 3, hk => simp only at hk; omega
      · exact one k
    · split
      · rename_i h1
        simp only [Bool.and_eq_true, decide_eq_true_eq, beq_iff_eq] at h1
        split
        · intro hk
          match k, hk with
          | 0, _ => exact h0
          | 1, _ => exact ⟨h1.1.1.2.1, by have := h1.1.1.2.2; omega⟩
          | 2, _ => exact ⟨h1.1.2.1, by have := h1.1.2.2; omega⟩
          | 3, _ => exact ⟨h1.2.1, by have := h1.2.2; omega⟩
          | k + 4, hk => simp only at hk; omega
        · exact one k
      · exact one k

theorem iter_below (w : World) (s : ByteArray) (pos : Nat) : Below w.heap.size w (w.iter s pos) := (Below.refl _ w).alloc (Nat.le_refl _) _

set_option maxRecDepth 100000 in
set_option maxHeartbeats 1000000 in
/-- IndexRune of a rune beyond ASCII in the two bytes. -/
theorem IndexRune_high (r : Int) (w : World) (h0 : 128 ≤ r) (h1 : r ≤ 2147483647) :
    Calls Tryd.prog 85 #[.string endsB, .int .i32 r] w fun e w' => e = .returned (.int .i64 (-1)) ∧ Below w.heap.size w w' := by
  unfold endsB
  have hb0 : decide (r < 128) = false := by simp; omega
  by_cases he : r = 65533
  · subst he
    go_enter Tryd.func85, Tryd.ntmps85
    go_wp2
    go_loopg [5, 6] 2 (fun g _ _ wx => ∃ i : Nat, i + g = 2 ∧ wx = w.iter ⟨#[62, 10]⟩ i)
    case atStart => exact ⟨0, rfl, rfl⟩
    case round =>
      obtain ⟨i, hi, rfl⟩ := hrel
      match i, hi with
      | 0, hi =>
        obtain rfl : gk = 2 := by omega
        have hnx := fun ty => run_next_ascii (P := Tryd.prog) w ⟨#[62, 10]⟩ 0 ty (by decide) (by decide)
        go_wp2
        go_roundg 1
        case measure => omega
        case rel => exact ⟨1, rfl, rfl⟩
      | 1, hi =>
        obtain rfl : gk = 1 := by omega
        have hnx := fun ty => run_next_ascii (P := Tryd.prog) w ⟨#[62, 10]⟩ 1 ty (by decide) (by decide)
        go_wp2
        go_roundg 0
        case measure => omega
        case rel => exact ⟨2, rfl, rfl⟩
      | 2, hi =>
        have hnx := fun ty => run_next_end (P := Tryd.prog) w ⟨#[62, 10]⟩ 2 ty (by decide)
        go_wp2
        go_ret
        exact ⟨rfl, iter_below _ _ _⟩
      | i + 3, hi => omega
  · have hbe : (r == 65533) = false := by simpa using he
    have HV := hid (ValidRune_any r w (by omega))
    cases hv : Utf8.valid r with
    | false =>
      rw [hv] at HV
      go_enter Tryd.func85, Tryd.ntmps85
      go_wp2_with (go_at_call 94; refine HV.out.mono ?_; rintro e w' ⟨rfl, hww⟩; subst w')
      go_ret
      exact ⟨rfl, Below.refl _ _⟩
    | true =>
      rw [hv] at HV
      obtain ⟨e1, e2, e3⟩ := encode_facts r hv h0
      obtain ⟨E, hE⟩ : ∃ E, Utf8.encode r = E := ⟨_, rfl⟩
      rw [hE] at e1 e2 e3
      have hcv : ∀ W, (convert 21 9 (.int .i32 r)).run Tryd.prog W = .ok (.string E) W := fun W => by
        rw [← hE]; exact run_convert_int_string W _ _ _ _ (by rw [Tryd.underlying21]; rfl) Tryd.underlying9
      clear hv hE
      have HI : Hid (∀ (c : Int) W, Calls Tryd.prog 64 #[.string ByteArray.empty, .int .u8 c] W fun e w' => e = .returned (.int .i64 (-1)) ∧ w' = W) := fun c W => Tryd.strings_IndexByte ByteArray.empty c W
      by_cases h2 : E.size = 2
      · have hlt : 1 < E.size := by omega
        have h128 : 128 ≤ (E[1]'hlt).toNat := by have := e3 (by omega); simpa [h2] using this
        have hne : ((((ByteArray.mk #[62, 10])[1]'(by decide)).toNat : Int) != ((E[1]'hlt).toNat : Int)) = true := by
          rw [show (((ByteArray.mk #[62, 10])[1]'(by decide)).toNat : Int) = 10 from rfl]; simp; omega
        have hw2 : IntKind.i64.wrap 2 = 2 := by decide
        have hx2 : (ByteArray.mk #[62, 10]).extract 2 2 = ⟨#[]⟩ := by decide
        clear e1 e2 e3
        go_enter Tryd.func85, Tryd.ntmps85
        go_wp2_with (go_at_call 94; refine HV.out.mono ?_; rintro e w' ⟨rfl, hww⟩; subst w')
        go_step3
        go_wp2_with fail
        go_loop [9, 10] (fun x y => x = .int .i64 1 ∧ y = .int .i64 0) (fun _ _ => 0)
        case atStart => exact ⟨rfl, rfl⟩
        case round =>
          obtain ⟨rfl, rfl⟩ := hrel
          go_wp2_with fail
          go_step3
          go_wp2_with fail
          go_quiet (fail)
          have HB1 := hid (below_drewN (Below.refl w.heap.size w) nq)
          generalize w.drewN nq = w1 at HB1 ⊢
          go_wp2_with fail
          go_quiet ((go_at_call 64; exact Calls.quiet_of_same (HI.out _ _)))
          go_wp2
          rw [Exit.noGoto_ret]
          iterate 8 (first | (change bodyPost _ _ _ _ _ _) | (change Exit.noGoto _ Exit.ret _ _; rw [Exit.noGoto_ret]))
          change bodyPost _ _ _ _ _ _
          go_ret
          exact ⟨rfl, below_drewN HB1.out _⟩
      · obtain ⟨m, hm⟩ : ∃ m : Nat, E.size = m + 3 := ⟨E.size - 3, by omega⟩
        have hm1 : m ≤ 1 := by omega
        clear e1 e2 e3 h2
        go_enter Tryd.func85, Tryd.ntmps85
        go_wp2_with (go_at_call 94; refine HV.out.mono ?_; rintro e w' ⟨rfl, hww⟩; subst w')
        go_step3
        go_wp2_with fail
        go_loop [9, 10] (fun x y => x = .int .i64 ((m : Int) + 2) ∧ y = .int .i64 0) (fun _ _ => 0)
        case atStart => exact ⟨by go_num, rfl⟩
        case round =>
          obtain ⟨rfl, rfl⟩ := hrel
          go_wp2_with fail
          go_ret
          exact ⟨rfl, Below.refl _ _⟩

/-- No byte of the two stands below place i: nor below i + n, if those between are beyond ASCII. -/
theorem noAny_add (l : List UInt8) (i n : Nat) (h : Lib.NoAny l [62, 10] i) (hn : ∀ k, k < n → ∀ b, l[i + k]? = some b → 128 ≤ b.toNat) : Lib.NoAny l [62, 10] (i + n) := by
  intro j b hj hb
  by_cases hji : j < i
  · exact h j b hji hb
  · have := hn (j - i) (by omega) b (by rw [show i + (j - i) = j by omega]; exact hb)
    simp only [List.contains_cons, List.contains_nil, Bool.or_false, Bool.or_eq_false_iff, beq_eq_false_iff_ne]
    constructor <;> (intro e; subst e; simp at this)

theorem get_data (s : ByteArray) (k : Nat) (b : UInt8) (h : s.data.toList[k]? = some b) : s.get! k = b := by
  have hk : k < s.size := by rw [← size_data]; exact (List.getElem?_eq_some_iff.1 h).1
  have h2 := get_at s k hk
  rw [Nat.add_zero] at h2
  rw [h2]
  rw [List.getElem?_eq_getElem (by rw [size_data]; exact hk)] at h
  exact Option.some.inj h

set_option maxRecDepth 100000 in
set_option maxHeartbeats 1000000 in
theorem IndexAny_any (s : ByteArray) (w : World) (hs : s.size < 4294967281) :
    Calls Tryd.prog 79 #[.string s, .string endsB] w fun e w' => e = .returned (.int .i64 (Lib.indexAny s.data.toList [62, 10])) ∧ Below w.heap.size w w' := by
  by_cases h8 : 8 < s.size
  · have h116 : (Tryd.prog.info? (Tryd.lays153_ren.t 116)).map (fun i => (i.zero, i.size)) = some (some (.agg (Array.replicate 256 (.bool false))), 256) := by kernel_rfl
    refine (Any.strings_IndexAny_long Tryd.lays153 (zero_of_info h116).1 (zero_of_info h116).2 s endsB w (by decide) h8 hs (by decide) ?_).mono ?_
    · intro j b hb
      match j, hb with
      | 0, hb => cases hb; decide
      | 1, hb => cases hb; decide
      | j + 2, hb => cases hb
    · rintro e w' ⟨rfl, rfl⟩
      exact ⟨rfl, ((Below.refl _ _).alloc (Nat.le_refl _) _).alloc (by simp) _⟩
  · have h8z : decide ((8 : Int) < (s.size : Int)) = false := decide_eq_false (by omega)
    have HU : Hid (∀ W, Calls Tryd.prog 86 #[.int .i64 (s.size : Int)] W fun e w' => e = .returned (.bool false) ∧ w' = W) := fun W => by
      have := Any.strings_shouldUseASCIISet Tryd.lays226 (s.size : Int) W
      rw [h8z] at this; exact this
    have HR : Hid (∀ (c : UInt8) W, c.toNat < 128 → Calls Tryd.prog 85 #[.string endsB, .int .i32 (c.toNat : Int)] W fun e w' => e = .returned (.int .i64 (Lib.indexByte [62, 10] c)) ∧ w' = W) := fun c W h => by
      have := Any.strings_IndexRune_ascii Tryd.lays152 endsB (c.toNat : Int) W (by omega) (by omega)
      rw [show ((c.toNat : Int)).toNat.toUInt8 = c by simp] at this
      exact this
    have HH := hid (fun (c : Int) W h0 h1 => IndexRune_high c W h0 h1)
    clear h8z
    unfold endsB at *
    go_enter Tryd.func79, Tryd.ntmps79
    go_wp2_with (go_at_call 86; refine (HU.out _).mono ?_; rintro e w' ⟨rfl, hww⟩; subst w')
    go_loopg [9, 10] s.size (fun g _ _ wx => ∃ (i : Nat), i + g = s.size ∧ Hid (Lib.NoAny s.data.toList [62, 10] i) ∧ Hid (wx.heap[w.heap.size]? = some (.stringIter s i)) ∧ Hid (Below w.heap.size w wx))
    case atStart => exact ⟨0, by omega, Lib.NoAny.zero _ _, World.iter_heap _ _ _, iter_below _ _ _⟩
    case round =>
      obtain ⟨i, hig, HN, HIt, HB⟩ := hrel
      by_cases hi : i < s.size
      · have hnx := fun ty => Lib.run_next_any_at (P := Tryd.prog) wr w.heap.size s i ty HIt.out hi
        have HIt2 := hid (Lib.iterAt_heap wr w.heap.size s i (i + (Utf8.decode s i).2) HIt.out)
        have HB2 : Hid (Below w.heap.size w (wr.iterAt w.heap.size s (i + (Utf8.decode s i).2))) := HB.out.trans ⟨rfl, rfl, rfl, by simp [World.iterAt], fun k hk => by simp only [World.iterAt]; rw [Array.getElem?_setIfInBounds_ne (by omega)]⟩
        obtain ⟨x, hx⟩ : ∃ x : UInt8, s[i]'hi = x := ⟨_, rfl⟩
        have hxl : s.data.toList[i]? = some x := by rw [← hx, List.getElem?_eq_getElem (by rw [size_data]; exact hi)]; rfl
        have HX := hid hxl
        clear hxl
        by_cases ha : x.toNat < 128
        · rw [decode_ascii s i hi (by rw [hx]; exact ha), hx] at hnx HIt2 HB2
          dsimp only at hnx HIt2 HB2
          have HR2 := hid (fun W => HR.out x W ha)
          have HNs := hid (HN.out.succ HX.out)
          have HNh := hid (Lib.indexAny_hit HN.out HX.out)
          clear hx HIt HB HR
          generalize wr.iterAt w.heap.size s (i + 1) = w2 at hnx HIt2 HB2
          by_cases hin : x = 62 ∨ x = 10
          · have hE : Hid (Lib.indexAny s.data.toList [62, 10] = i) := HNh.out (by rcases hin with rfl | rfl <;> rfl)
            have hge : (0 : Int) ≤ Lib.indexByte [62, 10] x := by rcases hin with rfl | rfl <;> decide
            generalize Lib.indexByte [62, 10] x = q at hge HR2
            clear hin HNs HNh
            go_wp2_with (go_at_call 85; refine (HR2.out _).mono ?_; rintro e w' ⟨rfl, hww⟩; subst w')
            go_ret
            exact ⟨ret_int (by rw [hE.out]), HB2.out⟩
          · have hlt : ¬ ((0 : Int) ≤ Lib.indexByte [62, 10] x) := by
              have h1 : ¬ (62 = x) := fun e => hin (.inl e.symm)
              have h2 : ¬ (10 = x) := fun e => hin (.inr e.symm)
              simp [Lib.indexByte, h1, h2]
            have HN2 := hid (HNs.out (by simp only [List.contains_cons, List.contains_nil, Bool.or_false, Bool.or_eq_false_iff, beq_eq_false_iff_ne]; exact ⟨fun e => hin (.inl e), fun e => hin (.inr e)⟩))
            generalize Lib.indexByte [62, 10] x = q at hlt HR2
            clear hin HNs HNh
            go_wp2_with (go_at_call 85; refine (HR2.out _).mono ?_; rintro e w' ⟨rfl, hww⟩; subst w')
            go_roundg (gk - 1)
            case measure => omega
            case rel => exact ⟨i + 1, by omega, HN2.out, HIt2.out, HB2.out⟩
        · have hd := decode_high s i hi (by rw [hx]; omega)
          have hle := decode_le s i
          have hby := decode_bytes s i hi (by rw [hx]; omega)
          have hend : i + (Utf8.decode s i).2 ≤ s.size := by
            have := (hby ((Utf8.decode s i).2 - 1) (by omega)).1
            omega
          have HN2 := hid (noAny_add s.data.toList i (Utf8.decode s i).2 HN.out (fun k hk b hb => by have := (hby k hk).2; rw [get_data s _ b hb] at this; exact this))
          generalize (Utf8.decode s i).1 = c at hnx hd hle
          generalize (Utf8.decode s i).2 = n at hnx hd hend HN2 HIt2 HB2
          have HH2 := hid (fun W => HH.out (c : Int) W (by omega) (by omega))
          clear hx HIt HB HR HH hby
          generalize wr.iterAt w.heap.size s (i + n) = w2 at hnx HIt2 HB2
          obtain ⟨hd1, hd2⟩ := hd
          go_wp2_with (go_at_call 85; refine (HH2.out _).mono ?_; rintro e w' ⟨rfl, hbw⟩)
          have HIt3 := hid ((hbw.block w.heap.size (Array.getElem?_eq_some_iff.1 HIt2.out).1).trans HIt2.out)
          have HB3 := hid (HB2.out.trans (hbw.mono HB2.out.size))
          clear hbw
          go_wp2
          go_roundg (gk - n)
          case measure => omega
          case rel => exact ⟨i + n, by omega, HN2.out, HIt3.out, HB3.out⟩
      · have hnx := fun ty => Lib.run_next_end_at (P := Tryd.prog) wr w.heap.size s i ty HIt.out hi
        have hE : Hid (Lib.indexAny s.data.toList [62, 10] = -1) := Lib.indexAny_none (by rw [size_data, show s.size = i by omega]; exact HN.out)
        clear HIt
        go_wp2
        go_ret
        exact ⟨ret_int (by rw [hE.out]), HB.out⟩
end
section
open Go.RowKit Go.Shelf

theorem indexAny_end : ∀ (l : List UInt8), Lib.indexAny l [62, 10] = if pathEnd l < l.length then (pathEnd l : Int) else -1
  | [] => rfl
  | c :: r => by
    have ih := indexAny_end r
    unfold Lib.indexAny
    by_cases h : c = 62 ∨ c = 10
    · have hc : [62, 10].contains c = true := by rcases h with rfl | rfl <;> rfl
      have hp : pathEnd (c :: r) = 0 := by
        unfold pathEnd; rw [List.findIdx_cons]
        rcases h with rfl | rfl <;> rfl
      rw [if_pos hc, hp]; simp
    · have h1 : ¬ c = 62 := fun e => h (.inl e)
      have h2 : ¬ c = 10 := fun e => h (.inr e)
      have hc : ¬ [62, 10].contains c = true := by
        simp only [List.contains_cons, List.contains_nil, Bool.or_false, Bool.or_eq_true, beq_iff_eq]; exact h
      have hp : pathEnd (c :: r) = pathEnd r + 1 := by
        unfold pathEnd; rw [List.findIdx_cons, beq_eq_false_iff_ne.2 h1, beq_eq_false_iff_ne.2 h2]; rfl
      rw [if_neg hc, ih, hp]
      by_cases hl : pathEnd r < r.length
      · have e1 : (if pathEnd r < r.length then ((pathEnd r : Nat) : Int) else -1) = (pathEnd r : Int) := if_pos hl
        have e2 : (if pathEnd r + 1 < (c :: r).length then ((pathEnd r + 1 : Nat) : Int) else -1) = ((pathEnd r + 1 : Nat) : Int) := if_pos (by simp; omega)
        rw [e1, e2, if_neg (by simp)]
        push_cast; rfl
      · have e1 : (if pathEnd r < r.length then ((pathEnd r : Nat) : Int) else -1) = -1 := if_neg hl
        have e2 : (if pathEnd r + 1 < (c :: r).length then ((pathEnd r + 1 : Nat) : Int) else -1) = -1 := if_neg (by simp; omega)
        rw [e1, e2]; rfl

theorem pre1 (a : UInt8) (l : List UInt8) : ([a].isPrefixOf l) = decide (l[0]? = some a) := by
  rcases l with _ | ⟨x, r⟩
  · rfl
  · apply bool_ext; simp [List.isPrefixOf]; exact ⟨fun h => h.symm, fun h => h.symm⟩

set_option maxHeartbeats 400000 in
theorem pathSize_any (s : ByteArray) (w : World) (hs : s.size < 4294967281) :
    Calls Tryd.prog 61 #[.string s] w fun e w' => e = .returned (.int .i64 (pathSz s.data.toList : Nat)) ∧ Below w.heap.size w w' := by
  have HP := hid (hasPrefix_any s ⟨#[60]⟩ w)
  have HI := hid (IndexAny_any s w hs)
  unfold endsB at HI
  rw [show (ByteArray.mk #[60]).data.toList = [60] from rfl, pre1] at HP
  by_cases h0 : s.data.toList[0]? = some 60
  · rw [decide_eq_true h0] at HP
    rw [indexAny_end] at HI
    by_cases hl : pathEnd s.data.toList < s.data.toList.length
    · rw [if_pos hl] at HI
      have hlt : pathEnd s.data.toList < s.size := by rw [← size_data]; exact hl
      have hk : s.data.toList[pathEnd s.data.toList]? = some (byteAt s.data.toList (pathEnd s.data.toList)) := by rw [List.getElem?_eq_getElem hl, byteAt_eq _ _ _ (List.getElem?_eq_getElem hl)]
      have HE : Hid ((pathSz s.data.toList : Nat) = if ((byteAt s.data.toList (pathEnd s.data.toList)).toNat : Int) = 62 then pathEnd s.data.toList + 1 else 0) := by
        show _ = _
        unfold pathSz
        rw [hk]
        simp only [h0, true_and, Option.some.injEq, u8i]
        rfl
      have HO : Hid (((byteAt s.data.toList (pathEnd s.data.toList)).toNat : Int) = 62 ∨ ((byteAt s.data.toList (pathEnd s.data.toList)).toNat : Int) = 10) := by
        have h1 : (fun c : UInt8 => c == 62 || c == 10) s.data.toList[pathEnd s.data.toList] = true := List.findIdx_getElem (w := hl)
        rw [← byteAt_eq _ _ _ (List.getElem?_eq_getElem hl)] at h1
        simp only [Bool.or_eq_true, beq_iff_eq, u8i] at h1
        exact h1
      clear h0 hl hk
      generalize pathSz s.data.toList = m at HE ⊢
      generalize pathEnd s.data.toList = k at HE HO HI hlt
      have hkb : (0 : Int) ≤ (k : Int) := by omega
      have HG := hid (byte_at s k hlt)
      go_enter Tryd.func61, Tryd.ntmps61
      go_wp2_with (first | (go_at_call 32; refine HP.out.mono ?_; rintro e w' ⟨rfl, hww⟩; subst w') | (go_at_call 79; refine HI.out.mono ?_; rintro e w' ⟨rfl, hbw⟩))
      all_goals go_ret
      all_goals first | (exfalso; omega) | (have HG2 := HG.out; have HE2 := HE.out; refine ⟨ret_int ?_, hbw⟩; rcases HO.out with h | h <;> simp_all <;> omega)
    · rw [if_neg hl] at HI
      have HE : Hid (pathSz s.data.toList = 0) := by
        show _ = _
        unfold pathSz
        rw [if_neg (fun h => by have := (List.getElem?_eq_some_iff.1 h.2).1; exact hl this)]
      clear h0 hl
      go_enter Tryd.func61, Tryd.ntmps61
      go_wp2_with (first | (go_at_call 32; refine HP.out.mono ?_; rintro e w' ⟨rfl, hww⟩; subst w') | (go_at_call 79; refine HI.out.mono ?_; rintro e w' ⟨rfl, hbw⟩))
      go_ret
      exact ⟨ret_int (by rw [HE.out]; rfl), hbw⟩
  · rw [decide_eq_false h0] at HP
    have HE : Hid (pathSz s.data.toList = 0) := by
      show _ = _
      unfold pathSz
      rw [if_neg (fun h => h0 h.1)]
    clear h0
    go_enter Tryd.func61, Tryd.ntmps61
    go_wp2_with (go_at_call 32; refine HP.out.mono ?_; rintro e w' ⟨rfl, hww⟩; subst w')
    go_ret
    exact ⟨ret_int (by rw [HE.out]; rfl), Below.refl _ _⟩

/-- What a slice of strings holds. -/
def SAt (w : World) (b : Nat) (l : List (List UInt8)) : Prop := b < w.heap.size ∧ ∀ (j : Nat) x, l[j]? = some x → w.cell? ⟨b, j, none⟩ = some (.string ⟨x.toArray⟩)
theorem SAt.below {w w' : World} {b : Nat} {l : List (List UInt8)} (h : SAt w b l) (hb : Below w.heap.size w w') : SAt w' b l :=
  ⟨Nat.lt_of_lt_of_le h.1 hb.size, fun j x hx => (hb.cell (p := ⟨b, j, none⟩) h.1).trans (h.2 j x hx)⟩

def firstPre (ss : List (List UInt8)) (l : List UInt8) : Nat := match ss.find? (·.isPrefixOf l) with | some s => s.length | none => 0

set_option maxHeartbeats 400000 in
theorem signSize_any (b c : Nat) (ss : List (List UInt8)) (s : ByteArray) (w : World) (hS : SAt w b ss) (hl : ss.length ≤ 1048576) :
    Calls Tryd.prog 63 #[.slice (some ⟨b, 0, none⟩) ss.length c, .string s] w fun e w' => e = .returned (.int .i64 (firstPre ss s.data.toList : Nat)) ∧ w' = w := by
  go_enter Tryd.func63, Tryd.ntmps63
  go_wp2
  go_loop [9] (fun x => ∃ j : Nat, j ≤ ss.length ∧ x = .int .i64 j ∧ Hid (firstPre ss s.data.toList = firstPre (ss.drop j) s.data.toList)) (fun x => ss.length - (intOf x).toNat)
  case atStart => exact ⟨0, Nat.zero_le _, rfl, rfl⟩
  case round =>
    obtain ⟨j, hj, rfl, HF⟩ := hrel
    by_cases hlt : j < ss.length
    · have hc := hS.2 j ss[j] (List.getElem?_eq_getElem hlt)
      have HP := hid (hasPrefix_any s ⟨ss[j].toArray⟩ w)
      have HD := hid (HF.out.trans (congrArg (fun l => firstPre l s.data.toList) (List.drop_eq_getElem_cons hlt)))
      have hsz : (⟨ss[j].toArray⟩ : ByteArray).size = ss[j].length := by show ss[j].toArray.size = _; simp
      have HPE : Hid ((⟨ss[j].toArray⟩ : ByteArray).data.toList = ss[j]) := by show _ = _; simp
      rw [HPE.out] at HP
      have hb := hS.1
      generalize ss[j] = x at hc HP HD hsz
      clear HPE HF
      cases hx : x.isPrefixOf s.data.toList with
      | true =>
        rw [hx] at HP
        have HE : Hid (firstPre ss s.data.toList = x.length) := by show _ = _; rw [HD.out]; simp [firstPre, hx]
        clear HD hx
        go_wp2_with (go_at_call 32; refine HP.out.mono ?_; rintro e w' ⟨rfl, hww⟩; subst w')
        go_ret
        exact ⟨ret_int (by rw [HE.out]), rfl⟩
      | false =>
        rw [hx] at HP
        have HE : Hid (firstPre ss s.data.toList = firstPre (ss.drop (j + 1)) s.data.toList) := by show _ = _; rw [HD.out]; simp [firstPre, hx]
        clear HD hx
        go_wp2_with (go_at_call 32; refine HP.out.mono ?_; rintro e w' ⟨rfl, hww⟩; subst w')
        go_round
        case rel => exact ⟨j + 1, by omega, by go_num, HE.out⟩
        case measure => simp [intOf]; omega
    · have HE : Hid (firstPre ss s.data.toList = 0) := by show _ = _; rw [HF.out, List.drop_eq_nil_of_le (by omega)]; rfl
      go_wp2
      go_ret
      exact ⟨ret_int (by rw [HE.out]; rfl), rfl⟩

theorem index_note : ∀ (l : List UInt8) (i : Nat), (match noteEnd l i with | some k => (k : Int) | none => -1) = if Lib.index l [42, 47] = -1 then -1 else Lib.index l [42, 47] + i
  | [], _ => rfl
  | [c], i => by
    have : Lib.index [c] [42, 47] = -1 := by simp [Lib.index, List.isPrefixOf]
    rw [if_pos this]; rfl
  | c :: d :: r, i => by
    have ih := index_note (d :: r) (i + 1)
    have hge := Lib.index_ge (d :: r) [42, 47]
    unfold Lib.index noteEnd
    by_cases h : c = 42 ∧ d = 47
    · have hp : [42, 47].isPrefixOf (c :: d :: r) = true := by rw [h.1, h.2]; rfl
      rw [if_pos h, if_pos hp]; simp
    · have hp : ¬ [42, 47].isPrefixOf (c :: d :: r) = true := by
        intro hp; apply h
        simp [List.isPrefixOf] at hp
        exact ⟨hp.1.symm, hp.2.symm⟩
      rw [if_neg h, if_neg hp, ih]
      generalize Lib.index (d :: r) [42, 47] = q at hge
      by_cases hm : q = -1
      · subst hm; rfl
      · have e : (if (q == -1) = true then (-1 : Int) else q + 1) = q + 1 := if_neg (by simpa using hm)
        rw [e, if_neg hm, if_neg (by omega)]; push_cast; omega

theorem index_len (sub : List UInt8) : ∀ (l : List UInt8), Lib.index l sub ≤ l.length
  | [] => by unfold Lib.index; split <;> simp
  | b :: l => by
    have ih := index_len sub l
    unfold Lib.index
    split
    · simp only [List.length_cons]; push_cast; omega
    · split
      · simp only [List.length_cons]; push_cast; omega
      · simp only [List.length_cons]; push_cast; omega

theorem note_at (l : List UInt8) : (match noteEnd l 0 with | some k => (k : Int) + 4 | none => -1) = if Lib.index l [42, 47] = -1 then -1 else Lib.index l [42, 47] + 4 := by
  have h := index_note l 0
  cases hn : noteEnd l 0 with
  | none =>
    rw [hn] at h
    simp only at h ⊢
    by_cases hm : Lib.index l [42, 47] = -1
    · rw [if_pos hm]
    · rw [if_neg hm] at h; simp only [Int.cast_ofNat_Int, Int.add_zero] at h; exact absurd h.symm hm
  | some k =>
    rw [hn] at h
    simp only at h ⊢
    by_cases hm : Lib.index l [42, 47] = -1
    · rw [if_pos hm] at h; omega
    · rw [if_neg hm] at h ⊢; simp only [Int.cast_ofNat_Int, Int.add_zero] at h; rw [h]

theorem blankSz_pre (l : List UInt8) (c : UInt8) (h : l[0]? = some c) : blankSz l = if c = 32 ∨ c = 9 ∨ c = 10 ∨ c = 13 then 1
    else if [47, 47].isPrefixOf l then ((spanN (fun i => byteAt l i != 10) l.length : Nat) : Int)
    else if [47, 42].isPrefixOf l then (if Lib.index (l.drop 2) [42, 47] = -1 then -1 else Lib.index (l.drop 2) [42, 47] + 4)
    else 0 := by
  cases l with
  | nil => cases h
  | cons c' r =>
    simp at h
    subst h
    rw [← note_at]
    unfold blankSz
    simp only [pre2, decide_eq_true_eq, List.getElem?_cons_zero, Option.some.injEq, List.getElem?_cons_succ, List.head?_eq_getElem?, List.drop_succ_cons, List.drop_one]
    rfl

theorem indexByte_blank (c : UInt8) : (0 ≤ Lib.indexByte [32, 9, 10, 13] c) ↔ (c = 32 ∨ c = 9 ∨ c = 10 ∨ c = 13) := by
  by_cases h1 : c = 32
  · subst h1; decide
  · by_cases h2 : c = 9
    · subst h2; decide
    · by_cases h3 : c = 10
      · subst h3; decide
      · by_cases h4 : c = 13
        · subst h4; decide
        · have e1 : ¬ (32 = c) := fun e => h1 e.symm
          have e2 : ¬ (9 = c) := fun e => h2 e.symm
          have e3 : ¬ (10 = c) := fun e => h3 e.symm
          have e4 : ¬ (13 = c) := fun e => h4 e.symm
          simp [Lib.indexByte, e1, e2, e3, e4, h1, h2, h3, h4]

theorem blankSize1_any (s : ByteArray) (B i : Nat) (w : World) (hi : i < s.size) (hB : w.cell? ⟨B, 0, none⟩ = some (.string s)) :
    Calls Tryd.prog 66 #[.int .i64 (i : Int), .pointer (some ⟨B, 0, none⟩)] w fun e w' => e = .returned (.bool (byteAt s.data.toList i != 10)) ∧ w' = w := by
  have HE : Hid (((s[i].toNat : Int) != 10) = (byteAt s.data.toList i != 10)) := by
    show _ = _
    rw [← byte_at s i hi]
    apply bool_ext
    simp only [bne_iff_ne, Ne, u8i]
    rfl
  go_enter Tryd.func66, Tryd.ntmps66
  go_wp2
  go_ret
  exact ⟨ret_bool HE.out, rfl⟩

/-- The library's variable holds some int. -/
def Mx (w : World) : Prop := ∃ m, w.cell? ⟨0, 0, none⟩ = some (.int .i64 m)
theorem Mx.below {w w' : World} (h : Mx w) (hb : Below w.heap.size w w') : Mx w' := by
  obtain ⟨m, hm⟩ := h
  exact ⟨m, (hb.cell (p := ⟨0, 0, none⟩) (World.block_lt_of_cell? _ _ hm)).trans hm⟩

set_option maxHeartbeats 1000000 in
theorem blankSize_any (s : ByteArray) (w : World) (hm : Mx w) (hs : s.size < 4294967281) :
    Calls Tryd.prog 45 #[.string s] w fun e w' => e = .returned (.int .i64 (blankSz s.data.toList)) ∧ Below w.heap.size w w' := by
  have HB := hid ((Below.refl _ w).alloc (Nat.le_refl _) (.cells #[.string s] 9))
  by_cases h0 : s.size = 0
  · obtain rfl := empty_of h0
    go_enter Tryd.func45, Tryd.ntmps45
    go_wp2
    go_ret
    exact ⟨rfl, HB.out⟩
  · have h1 : 1 ≤ s.size := by omega
    have he := isEmpty_false h1
    have hz : (0 : Int) < (s.size : Int) := by omega
    have hz2 : 0 < s.size := by omega
    have HE := hid (blankSz_pre s.data.toList s[0] (by rw [List.getElem?_eq_getElem (by rw [size_data]; exact hz2)]; rfl))
    have HI : Hid (∀ W, Calls Tryd.prog 64 #[.string ⟨#[32, 9, 10, 13]⟩, .int .u8 (s[0].toNat : Int)] W fun e w' => e = .returned (.int .i64 (Lib.indexByte [32, 9, 10, 13] s[0])) ∧ w' = W) := fun W => by
      have := Tryd.strings_IndexByte ⟨#[32, 9, 10, 13]⟩ (s[0].toNat : Int) W
      rw [show ((s[0].toNat : Int)).toNat.toUInt8 = s[0] by simp] at this
      exact this
    have hib := indexByte_blank s[0]
    have HP := hid (fun (p : ByteArray) W => hasPrefix_any s p W)
    clear h0
    by_cases hb : s[0] = 32 ∨ s[0] = 9 ∨ s[0] = 10 ∨ s[0] = 13
    · have hge := hib.2 hb
      have HE2 : Hid (blankSz s.data.toList = 1) := HE.out.trans (if_pos hb)
      clear hib hb HE
      generalize Lib.indexByte [32, 9, 10, 13] s[0] = q at hge HI
      go_enter Tryd.func45, Tryd.ntmps45
      go_wp2_with (go_at_call 64; refine (HI.out _).mono ?_; rintro e w' ⟨rfl, hww⟩; subst w')
      go_ret
      exact ⟨ret_int HE2.out.symm, HB.out⟩
    · have hlt : ¬ ((0 : Int) ≤ Lib.indexByte [32, 9, 10, 13] s[0]) := fun h => hb (hib.1 h)
      have HE1 := hid (HE.out.trans (if_neg hb))
      clear hib hb HE
      generalize Lib.indexByte [32, 9, 10, 13] s[0] = q at hlt HI
      cases hp1 : [47, 47].isPrefixOf s.data.toList with
      | true =>
        rw [hp1] at HE1
        have HE2 := hid (HE1.out.trans (if_pos rfl))
        have HSp := hid (span_any s 66 w.heap.size (fun i => byteAt s.data.toList i != 10) (w.alloc (.cells #[.string s] 9)) (enters_of Tryd.func66 (by kernel_rfl) rfl)
          (fun i _ hi => blankSize1_any s w.heap.size i _ hi (by rw [World.cell?_alloc_mark]; rfl)) h1 (by unfold maxLen; omega))
        rw [size_data] at HE2
        clear HE1
        go_enter Tryd.func45, Tryd.ntmps45
        go_wp2_with (first | (go_at_call 64; refine (HI.out _).mono ?_; rintro e w' ⟨rfl, hww⟩; subst w') | (go_at_call 32; refine (HP.out _ _).mono ?_; rintro e w' ⟨rfl, hww⟩; subst w') | (go_at_call 65; refine HSp.out.mono ?_; rintro e w' ⟨rfl, hww⟩; subst w'))
        go_ret
        exact ⟨ret_int HE2.out.symm, HB.out⟩
      | false =>
        rw [hp1] at HE1
        have HE2 := hid (HE1.out.trans (if_neg Bool.false_ne_true))
        clear HE1
        cases hp2 : [47, 42].isPrefixOf s.data.toList with
        | false =>
          rw [hp2] at HE2
          have HE3 := hid (HE2.out.trans (if_neg Bool.false_ne_true))
          clear HE2
          go_enter Tryd.func45, Tryd.ntmps45
          go_wp2_with (first | (go_at_call 64; refine (HI.out _).mono ?_; rintro e w' ⟨rfl, hww⟩; subst w') | (go_at_call 32; refine (HP.out _ _).mono ?_; rintro e w' ⟨rfl, hww⟩; subst w'))
          go_ret
          exact ⟨ret_int HE3.out.symm, HB.out⟩
        | true =>
          have hs2 : 2 ≤ s.size := by
            have hp3 := (prefix_iff _ _).1 hp2
            have := congrArg List.length hp3
            simp at this
            omega
          rw [hp2] at HE2
          have HE3 := hid (HE2.out.trans (if_pos rfl))
          obtain ⟨m, hmx⟩ := hm.below HB.out
          have HX : Hid (Calls Tryd.prog 67 #[.string (s.extract 2 s.size), .string ⟨#[42, 47]⟩] (w.alloc (.cells #[.string s] 9)) fun e w' => e = .returned (.int .i64 (Lib.index (s.data.toList.drop 2) [42, 47])) ∧ w' = w.alloc (.cells #[.string s] 9)) := by
            have := Tryd.strings_Index (s.extract 2 s.size) ⟨#[42, 47]⟩ m (w.alloc (.cells #[.string s] 9)) (by simp [ByteArray.size_extract]; omega) hmx
            rw [extract_data, ← size_data s, List.take_length, size_data s] at this
            exact this
          have hge := Lib.index_ge (s.data.toList.drop 2) [42, 47]
          have hle : Lib.index (s.data.toList.drop 2) [42, 47] ≤ 4294967296 := by
            have := index_len [42, 47] (s.data.toList.drop 2)
            rw [List.length_drop, size_data] at this
            omega
          generalize Lib.index (s.data.toList.drop 2) [42, 47] = k at HE3 HX hge hle
          clear HE2 hmx hm
          by_cases hk : k = -1
          · subst hk
            go_enter Tryd.func45, Tryd.ntmps45
            go_wp2_with (first | (go_at_call 64; refine (HI.out _).mono ?_; rintro e w' ⟨rfl, hww⟩; subst w') | (go_at_call 32; refine (HP.out _ _).mono ?_; rintro e w' ⟨rfl, hww⟩; subst w') | (go_at_call 67; refine HX.out.mono ?_; rintro e w' ⟨rfl, hww⟩; subst w'))
            go_ret
            exact ⟨ret_int HE3.out.symm, HB.out⟩
          · have HE4 := hid (HE3.out.trans (if_neg hk))
            have hk0 : 0 ≤ k := by omega
            clear hk HE3
            go_enter Tryd.func45, Tryd.ntmps45
            go_wp2_with (first | (go_at_call 64; refine (HI.out _).mono ?_; rintro e w' ⟨rfl, hww⟩; subst w') | (go_at_call 32; refine (HP.out _ _).mono ?_; rintro e w' ⟨rfl, hww⟩; subst w') | (go_at_call 67; refine HX.out.mono ?_; rintro e w' ⟨rfl, hww⟩; subst w'))
            go_ret
            exact ⟨ret_int (by rw [HE4.out]; omega), HB.out⟩
end
end Go.Proofs.YtoedgcpfomgagaaDoor
