/- Walk of what is quoted. -/
import Derived.Test.YteklakpfbkcegaaGreatDoorLxNum
namespace Go.Proofs.YteklakpfbkcegaaGreatDoor
open Go.RowKit Go.Shelf

theorem below_drewN {B : Nat} {a w : World} (h : Below B a w) (n : Nat) : Below B a (w.drewN n) := h.trans ⟨rfl, rfl, rfl, Nat.le_refl _, fun _ _ => rfl⟩

theorem quotGo_end (q : UInt8) (l : List UInt8) (k : Nat) (h : l.length ≤ k) : quotGo q (l.drop k) k = -1 := by
  rw [List.drop_eq_nil_of_le h]; rfl
theorem quotGo_step (q : UInt8) (l : List UInt8) (k : Nat) (c : UInt8) (h : l[k]? = some c) :
    quotGo q (l.drop k) k = if c = 10 then -1 else if c = q then (k : Int) + 1 else if c = 92 ∧ k + 1 < l.length ∧ byteAt l (k + 1) ≠ 10 then quotGo q (l.drop (k + 2)) (k + 2) else quotGo q (l.drop (k + 1)) (k + 1) := by
  have hk := (List.getElem?_eq_some_iff.1 h).1
  have e1 : l.drop k = c :: l.drop (k + 1) := by
    rw [List.drop_eq_getElem_cons hk]
    congr 1
    exact (List.getElem?_eq_some_iff.1 h).2
  rw [e1]
  by_cases hk1 : k + 1 < l.length
  · have e2 : l.drop (k + 1) = byteAt l (k + 1) :: l.drop (k + 2) := by
      rw [List.drop_eq_getElem_cons hk1]
      congr 1
      exact (byteAt_eq l (k + 1) _ (List.getElem?_eq_getElem hk1)).symm
    rw [e2]
    simp only [quotGo, hk1, true_and]
  · have e2 : l.drop (k + 1) = [] := List.drop_eq_nil_of_le (by omega)
    rw [e2]
    simp [quotGo, hk1]

set_option maxHeartbeats 1000000 in
theorem quoted1_any (s : ByteArray) (q : UInt8) (B : Nat) (w : World) (hs : s.size ≤ maxLen) (hB : w.cell? ⟨B, 0, none⟩ = some (.int .u8 (q.toNat : Int))) :
    Calls Tryz.prog 116 #[.string s, .pointer (some ⟨B, 0, none⟩)] w fun e w' => e = .returned (.int .i64 (quotSz q s.data.toList)) ∧ Below w.heap.size w w' := by
  unfold maxLen at hs
  by_cases h0 : s.size = 0
  · obtain rfl := empty_of h0
    go_enter Tryz.func116, Tryz.ntmps116
    go_wp2_with fail
    go_quiet (fail)
    go_wp2
    go_ret
    exact ⟨rfl, below_drewN (Below.refl _ _) _⟩
  · have h1 : 1 ≤ s.size := by omega
    have he := isEmpty_false h1
    have hz : (0 : Int) < (s.size : Int) := by omega
    have hz2 : 0 < s.size := by omega
    have hq0 : quotSz q s.data.toList = if s[0] = q then quotGo q (s.data.toList.drop 1) 1 else 0 := by
      unfold quotSz
      have h2 := size_data s
      rw [byte_at s 0 (by omega)]
      cases hdl : s.data.toList with
      | nil => rw [hdl] at h2; simp at h2; omega
      | cons d r => rfl
    clear h0
    by_cases hc : s[0] = q
    · rw [if_pos hc] at hq0
      have hne : ((s[0].toNat : Int) != (q.toNat : Int)) = false := by rw [hc]; simp
      have HQ := hid hq0
      clear hq0 hc
      go_enter Tryz.func116, Tryz.ntmps116
      go_wp2_with fail
      go_quiet (fail)
      go_wp2
      have HB0 := hid (below_drewN (Below.refl w.heap.size w) nq)
      clear hne he
      go_loopw [4] (fun x wr => ∃ k : Nat, 1 ≤ k ∧ k ≤ s.size ∧ x = .int .i64 k ∧ Hid (quotSz q s.data.toList = quotGo q (s.data.toList.drop k) k ∧ Below w.heap.size w wr)) (fun x _ => s.size - (intOf x).toNat)
      case atStart => exact ⟨1, Nat.le_refl _, h1, rfl, HQ.out, HB0.out⟩
      case round =>
        obtain ⟨k, hk1, hk, rfl, HR⟩ := hrel
        clear HQ HB0
        by_cases hlt : k < s.size
        · have hst := quotGo_step q s.data.toList k s[k] (by rw [List.getElem?_eq_getElem (by rw [size_data]; exact hlt)]; rfl)
          have HV := hid (HR.out.1.trans hst)
          have HBw := hid HR.out.2
          have hB' : wr.cell? ⟨B, 0, none⟩ = some (.int .u8 (q.toNat : Int)) := (HBw.out.cell (p := ⟨B, 0, none⟩) (World.block_lt_of_cell? _ _ hB)).trans hB
          clear hst HR
          simp only [u8i, Ne, size_data] at HV
          by_cases h10 : (s[k].toNat : Int) = 10
          · have HE := hid (show quotSz q s.data.toList = -1 by rw [HV.out, if_pos (by rw [h10]; rfl)])
            clear HV
            go_wp2
            go_ret
            exact ⟨ret_int (by rw [HE.out]), HBw.out⟩
          · by_cases hcq : (s[k].toNat : Int) = (q.toNat : Int)
            · have HE := hid (show quotSz q s.data.toList = (k : Int) + 1 by rw [HV.out, if_neg (by intro h; exact h10 h), if_pos hcq])
              have hbq : ((s[k].toNat : Int) == (q.toNat : Int)) = true := by simpa using hcq
              have HBn := hid (fun n => below_drewN HBw.out n)
              clear HV hcq
              go_wp2_with fail
              go_quiet (fail)
              go_wp2
              go_ret
              exact ⟨ret_int (by rw [HE.out]), HBn.out _⟩
            · have hbq : ((s[k].toNat : Int) == (q.toNat : Int)) = false := by simpa using hcq
              have HV2 := hid (HV.out.trans ((if_neg (by intro h; exact h10 h)).trans (if_neg hcq)))
              have HBn := hid (fun n => below_drewN HBw.out n)
              clear HV hcq
              by_cases h92 : (s[k].toNat : Int) = 92
              · by_cases hk2 : k + 1 < s.size
                · by_cases hn : (s[k + 1].toNat : Int) = 10
                  · have HE := hid (HV2.out.trans (if_neg (by rintro ⟨_, _, h⟩; exact h (by rw [← byte_at s (k + 1) hk2, hn]; rfl))))
                    go_wp2_with fail
                    go_quiet (fail)
                    go_wp2
                    go_roundw
                    case rel => exact ⟨k + 1, by omega, by omega, by go_num, HE.out, HBn.out _⟩
                    case measure => simp [intOf]; omega
                  · have HE := hid (HV2.out.trans (if_pos ⟨h92, hk2, by rw [← byte_at s (k + 1) hk2]; exact hn⟩))
                    go_wp2_with fail
                    go_quiet (fail)
                    go_wp2
                    go_roundw
                    case rel => exact ⟨k + 2, by omega, by omega, by go_num, HE.out, HBn.out _⟩
                    case measure => simp [intOf]; omega
                · have HE := hid (HV2.out.trans (if_neg (by rintro ⟨_, h, _⟩; exact hk2 h)))
                  have hk3 : ¬ ((k : Int) + 1 < (s.size : Int)) := by omega
                  go_wp2_with fail
                  go_quiet (fail)
                  go_wp2
                  go_roundw
                  case rel => exact ⟨k + 1, by omega, by omega, by go_num, HE.out, HBn.out _⟩
                  case measure => simp [intOf]; omega
              · have HE := hid (HV2.out.trans (if_neg (by rintro ⟨h, _⟩; exact h92 h)))
                go_wp2_with fail
                go_quiet (fail)
                go_wp2
                go_roundw
                case rel => exact ⟨k + 1, by omega, by omega, by go_num, HE.out, HBn.out _⟩
                case measure => simp [intOf]; omega
        · have HE := hid (HR.out.1.trans (quotGo_end q s.data.toList k (by rw [size_data]; omega)))
          have HBw := hid HR.out.2
          clear HR
          go_wp2
          go_ret
          exact ⟨ret_int (by rw [HE.out]), HBw.out⟩
    · rw [if_neg hc] at hq0
      have hne : ((s[0].toNat : Int) != (q.toNat : Int)) = true := by rw [u8i] at hc; simpa using hc
      have HQ := hid hq0
      clear hq0 hc
      go_enter Tryz.func116, Tryz.ntmps116
      go_wp2_with fail
      go_quiet (fail)
      go_wp2
      go_ret
      exact ⟨ret_int (by rw [HQ.out]), below_drewN (Below.refl _ _) _⟩
end Go.Proofs.YteklakpfbkcegaaGreatDoor
