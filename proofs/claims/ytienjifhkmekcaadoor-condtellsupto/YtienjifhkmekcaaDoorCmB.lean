/- Some texts in one. -/
import Derived.Test.YtienjifhkmekcaaDoorCdShelf
import Derived.Below
import Derived.RowKit
import Derived.BigCall
import Derived.WalkKit
import Derived.Test.YtienjifhkmekcaaDoorCmA
import Derived.Lib.ConvBytes
import Derived.Lib.Strings
import Derived.Lib.AtoiErrMem
import Derived.Test.YtienjifhkmekcaaDoorLater
import Derived.Test.YtienjifhkmekcaaDoorLaterTail
namespace Go.Proofs.YtienjifhkmekcaaDoor
open Go.RowKit Go.Shelf

theorem toError_syntax (fn s : ByteArray) (base bits : Int) (ev : Value) (w : World) (hlim : s.size ≤ 281474976710656) (hv : w.cell? ⟨0, 0, none⟩ = some ev) (hev : ev = .nilIface ∨ ∃ te pe, ev = .iface te pe) :
    Calls Tryd.prog 41 #[.string fn, .string s, .int .i64 base, .int .i64 bits, .iface 96 (.int .i64 2)] w fun e w' => ∃ N, e = .returned (.iface 100 (.pointer (some ⟨N, 0, none⟩))) ∧ w.heap.size ≤ N ∧ w'.heap[N]? = some (.cells #[.string fn, .string s, ev] 107 (0, 0)) ∧ Below w.heap.size w w' := AnyPu.strconv_toError_syntax Tryd.laysPu17 fn s base bits ev w hlim hv hev
theorem toError_range (fn s : ByteArray) (base bits : Int) (ev : Value) (w : World) (hlim : s.size ≤ 281474976710656) (hv : w.cell? ⟨1, 0, none⟩ = some ev) (hev : ev = .nilIface ∨ ∃ te pe, ev = .iface te pe) :
    Calls Tryd.prog 41 #[.string fn, .string s, .int .i64 base, .int .i64 bits, .iface 96 (.int .i64 1)] w fun e w' => ∃ N, e = .returned (.iface 100 (.pointer (some ⟨N, 0, none⟩))) ∧ w.heap.size ≤ N ∧ w'.heap[N]? = some (.cells #[.string fn, .string s, ev] 107 (0, 0)) ∧ Below w.heap.size w w' := AnyPu.strconv_toError_range Tryd.laysPu17 fn s base bits ev w hlim hv hev
theorem TrimRight_any (s cutset : ByteArray) (w : World) (hs : s.size ≤ 9223372036854775807) (hcs : cutset.size < 4294967281) (hascii : ∀ (j : Nat) b, cutset.data.toList[j]? = some b → b.toNat < 128) :
    Calls Tryd.prog 20 #[.string s, .string cutset] w fun e w' => e = .returned (.string ⟨(Lib.trimRightS s.data.toList cutset.data.toList).toArray⟩) ∧ Below w.heap.size w w' := Any.strings_TrimRight_ascii Tryd.lays162 (fun _ => by kernel_rfl) (by kernel_rfl) s cutset w hs hcs hascii
theorem HasPrefix_any (s p : ByteArray) (w : World) : Calls Tryd.prog 21 #[.string s, .string p] w fun e w' => e = .returned (.bool (Lib.hasPrefix s.data.toList p.data.toList)) ∧ w' = w := Any.strings_HasPrefix Tryd.lays99 s p w
end Go.Proofs.YtienjifhkmekcaaDoor
namespace Go.Proofs.YtienjifhkmekcaaDoor
open Go.RowKit

theorem lower_any (c : Int) (w : World) : Calls Tryd.prog 55 #[.int .u8 c] w fun e w' => e = .returned (.int .u8 (bits .or .u8 c 32)) ∧ w' = w := by
  go_enter Tryd.func55, Tryd.ntmps55
  go_wp2
  go_ret
  exact ⟨rfl, rfl⟩

/-- The digit that a byte is; 99, if it is none. -/
def digU (c : UInt8) : Nat := if 48 ≤ c.toNat ∧ c.toNat ≤ 57 then c.toNat - 48 else if 97 ≤ (bits .or .u8 c.toNat 32).toNat ∧ (bits .or .u8 c.toNat 32).toNat ≤ 122 then (bits .or .u8 c.toNat 32).toNat - 87 else 99
def cutU (b : Nat) : Nat := 18446744073709551615 / b + 1
/-- The number that bytes tell; or 1 (out of range), 2 (no number). -/
def parsU (b : Nat) (acc : Nat) : List UInt8 → Nat ⊕ Int
  | [] => .inl acc
  | c :: r => if b ≤ digU c then .inr 2 else if cutU b ≤ acc then .inr 1 else if 9223372036854775807 < acc * b + digU c then .inr 1 else parsU b (acc * b + digU c) r
def parsV (r : Nat ⊕ Int) : Value := match r with
  | .inl n => .tuple #[.int .u64 (n : Int), .nilIface]
  | .inr e => .tuple #[.int .u64 (if e = 1 then 9223372036854775807 else 0), .iface 96 (.int .i64 e)]

set_option maxRecDepth 100000 in
set_option maxHeartbeats 4000000 in
theorem parse_8 (t : ByteArray) (hne : t.size ≠ 0) (hmax : t.size ≤ 1048576) (w : World) :
    Calls Tryd.prog 40 #[.string t, .int .i64 8, .int .i64 63] w fun e w' => e = .returned (parsV (parsU 8 0 t.data.toList)) ∧ w' = Lib.bytesWorld w 5 t := by
  have hemp : t.toList.isEmpty = false := by
    rw [← decide_eq_emptyBytes]
    exact decide_eq_false (fun h => hne (by rw [h]; rfl))
  have hcv := Lib.run_convert_string_bytes (P := Tryd.prog) w 9 65 5 t (u := .string) Tryd.underlying9 Tryd.underlying65 Tryd.underlying5
  have hB : ∀ j, j < t.size → (Lib.bytesWorld w 5 t).cell? ⟨w.heap.size, j, none⟩ = some (.int .u8 (t.data.toList.getD j 0).toNat) := fun j hj => Lib.bytesWorld_cell w 5 t j hj
  obtain ⟨W1, hW1⟩ : ∃ W1, W1 = Lib.bytesWorld w 5 t := ⟨_, rfl⟩
  rw [← hW1] at hcv hB ⊢
  clear hW1
  obtain ⟨bs, hL⟩ : ∃ bs, bs = t.data.toList := ⟨_, rfl⟩
  have hLn : bs.length = t.size := by rw [hL, Lib.size_eq]
  rw [← hL] at hB ⊢
  clear hL
  have hmv : IntKind.u64.wrap (IntKind.u64.wrap 9223372036854775808 - 1) = 9223372036854775807 := by
    rw [IntKind.wrap_u64, IntKind.wrap_u64]
    decide
  · go_enter Tryd.func40, Tryd.ntmps40
    go_wp2
    go_loop [12, 13, 101] (fun vu vn vi => ∃ (k acc : Nat) (a : Int), vu = .bool false ∧ vn = .int .u64 a ∧ vi = .int .i64 k ∧ k ≤ t.size ∧ Hid (a = (acc : Int) ∧ acc ≤ 9223372036854775807 ∧ parsU 8 0 bs = parsU 8 acc (bs.drop k)))
      (fun _ _ vi => t.size - (intOf vi).toNat)
    case atStart => exact ⟨0, 0, 0, rfl, rfl, rfl, by omega, rfl, by omega, rfl⟩
    case round =>
      obtain ⟨k, acc, a, rfl, rfl, rfl, hk, hh⟩ := hrel
      obtain ⟨ha, hacc, hdec⟩ := hh.out
      clear hh
      have a0 : 0 ≤ a := by omega
      have a1 : a ≤ 9223372036854775807 := by omega
      by_cases hkn : k < t.size
      · have hc := hB k hkn
        have hdrop : bs.drop k = bs[k]'(by omega) :: bs.drop (k + 1) := List.drop_eq_getElem_cons (by omega)
        have hget : bs.getD k 0 = bs[k]'(by omega) := by simp [List.getD, List.getElem?_eq_getElem (show k < bs.length by omega)]
        rw [hdrop] at hdec
        rw [hget] at hc
        generalize bs[k]'(by omega) = c at hc hdec
        have hc256 : c.toNat < 256 := c.toNat_lt
        clear hB hdrop hget
        by_cases hdig : 48 ≤ c.toNat ∧ c.toNat ≤ 57
        · obtain ⟨hd0, hd1⟩ := hdig
          have hD : digU c = c.toNat - 48 := by simp [digU, hd0, hd1]
          by_cases hbd : 8 ≤ c.toNat - 48
          · have hF : parsU 8 acc (c :: bs.drop (k + 1)) = .inr 2 := by simp only [parsU, hD]; rw [if_pos hbd]
            have HR := hid (hdec.trans hF)
            have ibd : 8 ≤ (c.toNat : Int) - 48 := by omega
            clear hacc hF ha hdec hD
            go_wp2
            go_ret2
            exact ⟨by rw [HR.out]; rfl, rfl⟩
          · have ibd : (c.toNat : Int) - 48 < 8 := by omega
            by_cases hcut : 2305843009213693952 ≤ acc
            · have hF : parsU 8 acc (c :: bs.drop (k + 1)) = .inr 1 := by simp only [parsU, hD]; rw [if_neg hbd, if_pos (by simpa [cutU] using hcut)]
              have HR := hid (hdec.trans hF)
              have icut : 2305843009213693952 ≤ a := by omega
              clear hcut hacc hF ha hdec hD
              go_wp2
              all_goals go_ret2
              all_goals exact ⟨by rw [HR.out]; rfl, rfl⟩
            · have icut : a < 2305843009213693952 := by omega
              by_cases hov : 9223372036854775807 < acc * 8 + (c.toNat - 48)
              · have hF : parsU 8 acc (c :: bs.drop (k + 1)) = .inr 1 := by simp only [parsU, hD]; rw [if_neg hbd, if_neg (by simpa [cutU] using hcut), if_pos hov]
                have HR := hid (hdec.trans hF)
                have iov : 9223372036854775807 < a * 8 + ((c.toNat : Int) - 48) := by omega
                clear hcut hacc hF hov ha hdec hD
                go_wp2
                all_goals go_ret2
                all_goals exact ⟨by rw [HR.out]; rfl, rfl⟩
              · have hF : parsU 8 acc (c :: bs.drop (k + 1)) = parsU 8 (acc * 8 + (c.toNat - 48)) (bs.drop (k + 1)) := by simp only [parsU, hD]; rw [if_neg hbd, if_neg (by simpa [cutU] using hcut), if_neg hov]
                have iov : a * 8 + ((c.toNat : Int) - 48) ≤ 9223372036854775807 := by omega
                have HN : Hid (a * 8 + ((c.toNat : Int) - 48) = ((acc * 8 + (c.toNat - 48) : Nat) : Int) ∧ acc * 8 + (c.toNat - 48) ≤ 9223372036854775807 ∧ parsU 8 0 bs = parsU 8 (acc * 8 + (c.toNat - 48)) (bs.drop (k + 1))) := hid ⟨by omega, by omega, hdec.trans hF⟩
                clear hcut hacc hF hov ha hdec hD
                go_wp2
                all_goals (refine ⟨⟨k + 1, acc * 8 + (c.toNat - 48), a * 8 + ((c.toNat : Int) - 48), rfl, (by first | rfl | (congr 1; omega)), (by first | rfl | (congr 1; omega)), by omega, HN⟩, by simp [intOf]; omega⟩)
        · by_cases h95 : c.toNat = 95
          · have hD : digU c = 99 := by unfold digU; rw [if_neg hdig, h95]; rfl
            have hF : parsU 8 acc (c :: bs.drop (k + 1)) = .inr 2 := by simp only [parsU, hD]; rw [if_pos (by omega)]
            have HR := hid (hdec.trans hF)
            have HLw := hid (fun W => lower_any 95 W)
            rw [show bits .or .u8 95 32 = 127 from rfl] at HLw
            rw [h95] at hc
            clear hacc hF ha hdec hD hdig hc256 h95
            go_wp2_with (go_at_call 55; refine (HLw.out _).mono ?_; rintro e w' ⟨rfl, rfl⟩)
            all_goals go_ret2
            all_goals exact ⟨by rw [HR.out]; rfl, rfl⟩
          · have hv0 := bits_lo_u8 .or (c.toNat : Int) 32
            have hv1 := bits_hi_u8 .or (c.toNat : Int) 32
            have hn95 : ((c.toNat : Int) == 95) = false := by simp; omega
            have hD0 : digU c = if 97 ≤ (bits .or .u8 c.toNat 32).toNat ∧ (bits .or .u8 c.toNat 32).toNat ≤ 122 then (bits .or .u8 c.toNat 32).toNat - 87 else 99 := by unfold digU; rw [if_neg hdig]
            have HLw := hid (fun W => lower_any (c.toNat : Int) W)
            generalize bits .or .u8 (c.toNat : Int) 32 = lv at hv0 hv1 hD0 HLw
            by_cases hlet : 97 ≤ lv.toNat ∧ lv.toNat ≤ 122
            · obtain ⟨hl0, hl1⟩ := hlet
              have hD : digU c = lv.toNat - 87 := by rw [hD0, if_pos ⟨hl0, hl1⟩]
              have il0 : 97 ≤ lv := by omega
              have il1 : lv ≤ 122 := by omega
              clear hD0
              by_cases hbd : 8 ≤ lv.toNat - 87
              · have hF : parsU 8 acc (c :: bs.drop (k + 1)) = .inr 2 := by simp only [parsU, hD]; rw [if_pos hbd]
                have HR := hid (hdec.trans hF)
                have ibd : 8 ≤ lv - 97 + 10 := by omega
                clear hacc hF ha hdec hD
                go_wp2_with (go_at_call 55; refine (HLw.out _).mono ?_; rintro e w' ⟨rfl, rfl⟩)
                all_goals go_ret2
                all_goals exact ⟨by rw [HR.out]; rfl, rfl⟩
              · exfalso; omega
            · have hD : digU c = 99 := by rw [hD0, if_neg hlet]
              have hF : parsU 8 acc (c :: bs.drop (k + 1)) = .inr 2 := by simp only [parsU, hD]; rw [if_pos (by omega)]
              have HR := hid (hdec.trans hF)
              clear hacc hF ha hdec hD hD0
              by_cases hl0 : 97 ≤ lv
              · have hl1 : ¬ lv ≤ 122 := fun h => hlet ⟨by omega, by omega⟩
                clear hlet
                go_wp2_with (go_at_call 55; refine (HLw.out _).mono ?_; rintro e w' ⟨rfl, rfl⟩)
                all_goals go_ret2
                all_goals exact ⟨by rw [HR.out]; rfl, rfl⟩
              · clear hlet
                go_wp2_with (go_at_call 55; refine (HLw.out _).mono ?_; rintro e w' ⟨rfl, rfl⟩)
                all_goals go_ret2
                all_goals exact ⟨by rw [HR.out]; rfl, rfl⟩
      · have hkk : k = t.size := by omega
        subst hkk
        have hF : parsU 8 acc (bs.drop t.size) = .inl acc := by rw [List.drop_eq_nil_of_le (by omega)]; rfl
        rw [hF] at hdec
        subst ha
        clear hacc hF a0 a1
        go_wp2
        go_ret2
        first | exact ⟨rfl, rfl⟩ | exact ⟨by rw [hdec]; rfl, rfl⟩
set_option maxRecDepth 100000 in
set_option maxHeartbeats 4000000 in
theorem parse_10 (t : ByteArray) (hne : t.size ≠ 0) (hmax : t.size ≤ 1048576) (w : World) :
    Calls Tryd.prog 40 #[.string t, .int .i64 10, .int .i64 63] w fun e w' => e = .returned (parsV (parsU 10 0 t.data.toList)) ∧ w' = Lib.bytesWorld w 5 t := by
  have hemp : t.toList.isEmpty = false := by
    rw [← decide_eq_emptyBytes]
    exact decide_eq_false (fun h => hne (by rw [h]; rfl))
  have hcv := Lib.run_convert_string_bytes (P := Tryd.prog) w 9 65 5 t (u := .string) Tryd.underlying9 Tryd.underlying65 Tryd.underlying5
  have hB : ∀ j, j < t.size → (Lib.bytesWorld w 5 t).cell? ⟨w.heap.size, j, none⟩ = some (.int .u8 (t.data.toList.getD j 0).toNat) := fun j hj => Lib.bytesWorld_cell w 5 t j hj
  obtain ⟨W1, hW1⟩ : ∃ W1, W1 = Lib.bytesWorld w 5 t := ⟨_, rfl⟩
  rw [← hW1] at hcv hB ⊢
  clear hW1
  obtain ⟨bs, hL⟩ : ∃ bs, bs = t.data.toList := ⟨_, rfl⟩
  have hLn : bs.length = t.size := by rw [hL, Lib.size_eq]
  rw [← hL] at hB ⊢
  clear hL
  have hmv : IntKind.u64.wrap (IntKind.u64.wrap 9223372036854775808 - 1) = 9223372036854775807 := by
    rw [IntKind.wrap_u64, IntKind.wrap_u64]
    decide
  · go_enter Tryd.func40, Tryd.ntmps40
    go_wp2
    go_loop [12, 13, 101] (fun vu vn vi => ∃ (k acc : Nat) (a : Int), vu = .bool false ∧ vn = .int .u64 a ∧ vi = .int .i64 k ∧ k ≤ t.size ∧ Hid (a = (acc : Int) ∧ acc ≤ 9223372036854775807 ∧ parsU 10 0 bs = parsU 10 acc (bs.drop k)))
      (fun _ _ vi => t.size - (intOf vi).toNat)
    case atStart => exact ⟨0, 0, 0, rfl, rfl, rfl, by omega, rfl, by omega, rfl⟩
    case round =>
      obtain ⟨k, acc, a, rfl, rfl, rfl, hk, hh⟩ := hrel
      obtain ⟨ha, hacc, hdec⟩ := hh.out
      clear hh
      have a0 : 0 ≤ a := by omega
      have a1 : a ≤ 9223372036854775807 := by omega
      by_cases hkn : k < t.size
      · have hc := hB k hkn
        have hdrop : bs.drop k = bs[k]'(by omega) :: bs.drop (k + 1) := List.drop_eq_getElem_cons (by omega)
        have hget : bs.getD k 0 = bs[k]'(by omega) := by simp [List.getD, List.getElem?_eq_getElem (show k < bs.length by omega)]
        rw [hdrop] at hdec
        rw [hget] at hc
        generalize bs[k]'(by omega) = c at hc hdec
        have hc256 : c.toNat < 256 := c.toNat_lt
        clear hB hdrop hget
        by_cases hdig : 48 ≤ c.toNat ∧ c.toNat ≤ 57
        · obtain ⟨hd0, hd1⟩ := hdig
          have hD : digU c = c.toNat - 48 := by simp [digU, hd0, hd1]
          by_cases hbd : 10 ≤ c.toNat - 48
          · exfalso; omega
          · have ibd : (c.toNat : Int) - 48 < 10 := by omega
            by_cases hcut : 1844674407370955162 ≤ acc
            · have hF : parsU 10 acc (c :: bs.drop (k + 1)) = .inr 1 := by simp only [parsU, hD]; rw [if_neg hbd, if_pos (by simpa [cutU] using hcut)]
              have HR := hid (hdec.trans hF)
              have icut : 1844674407370955162 ≤ a := by omega
              clear hcut hacc hF ha hdec hD
              go_wp2
              all_goals go_ret2
              all_goals exact ⟨by rw [HR.out]; rfl, rfl⟩
            · have icut : a < 1844674407370955162 := by omega
              by_cases hov : 9223372036854775807 < acc * 10 + (c.toNat - 48)
              · have hF : parsU 10 acc (c :: bs.drop (k + 1)) = .inr 1 := by simp only [parsU, hD]; rw [if_neg hbd, if_neg (by simpa [cutU] using hcut), if_pos hov]
                have HR := hid (hdec.trans hF)
                have iov : 9223372036854775807 < a * 10 + ((c.toNat : Int) - 48) := by omega
                clear hcut hacc hF hov ha hdec hD
                by_cases hbig : 18446744073709551615 < a * 10 + ((c.toNat : Int) - 48)
                · have hwr : IntKind.u64.wrap (a * 10 + ((c.toNat : Int) - 48)) = a * 10 + ((c.toNat : Int) - 48) - 18446744073709551616 := by rw [IntKind.wrap_u64]; omega
                  have hlt : a * 10 + ((c.toNat : Int) - 48) - 18446744073709551616 < a * 10 := by omega
                  go_wp2
                  all_goals go_ret2
                  all_goals exact ⟨by rw [HR.out]; rfl, rfl⟩
                · go_wp2
                  all_goals go_ret2
                  all_goals exact ⟨by rw [HR.out]; rfl, rfl⟩
              · have hF : parsU 10 acc (c :: bs.drop (k + 1)) = parsU 10 (acc * 10 + (c.toNat - 48)) (bs.drop (k + 1)) := by simp only [parsU, hD]; rw [if_neg hbd, if_neg (by simpa [cutU] using hcut), if_neg hov]
                have iov : a * 10 + ((c.toNat : Int) - 48) ≤ 9223372036854775807 := by omega
                have HN : Hid (a * 10 + ((c.toNat : Int) - 48) = ((acc * 10 + (c.toNat - 48) : Nat) : Int) ∧ acc * 10 + (c.toNat - 48) ≤ 9223372036854775807 ∧ parsU 10 0 bs = parsU 10 (acc * 10 + (c.toNat - 48)) (bs.drop (k + 1))) := hid ⟨by omega, by omega, hdec.trans hF⟩
                clear hcut hacc hF hov ha hdec hD
                go_wp2
                all_goals (refine ⟨⟨k + 1, acc * 10 + (c.toNat - 48), a * 10 + ((c.toNat : Int) - 48), rfl, (by first | rfl | (congr 1; omega)), (by first | rfl | (congr 1; omega)), by omega, HN⟩, by simp [intOf]; omega⟩)
        · by_cases h95 : c.toNat = 95
          · have hD : digU c = 99 := by unfold digU; rw [if_neg hdig, h95]; rfl
            have hF : parsU 10 acc (c :: bs.drop (k + 1)) = .inr 2 := by simp only [parsU, hD]; rw [if_pos (by omega)]
            have HR := hid (hdec.trans hF)
            have HLw := hid (fun W => lower_any 95 W)
            rw [show bits .or .u8 95 32 = 127 from rfl] at HLw
            rw [h95] at hc
            clear hacc hF ha hdec hD hdig hc256 h95
            go_wp2_with (go_at_call 55; refine (HLw.out _).mono ?_; rintro e w' ⟨rfl, rfl⟩)
            all_goals go_ret2
            all_goals exact ⟨by rw [HR.out]; rfl, rfl⟩
          · have hv0 := bits_lo_u8 .or (c.toNat : Int) 32
            have hv1 := bits_hi_u8 .or (c.toNat : Int) 32
            have hn95 : ((c.toNat : Int) == 95) = false := by simp; omega
            have hD0 : digU c = if 97 ≤ (bits .or .u8 c.toNat 32).toNat ∧ (bits .or .u8 c.toNat 32).toNat ≤ 122 then (bits .or .u8 c.toNat 32).toNat - 87 else 99 := by unfold digU; rw [if_neg hdig]
            have HLw := hid (fun W => lower_any (c.toNat : Int) W)
            generalize bits .or .u8 (c.toNat : Int) 32 = lv at hv0 hv1 hD0 HLw
            by_cases hlet : 97 ≤ lv.toNat ∧ lv.toNat ≤ 122
            · obtain ⟨hl0, hl1⟩ := hlet
              have hD : digU c = lv.toNat - 87 := by rw [hD0, if_pos ⟨hl0, hl1⟩]
              have il0 : 97 ≤ lv := by omega
              have il1 : lv ≤ 122 := by omega
              clear hD0
              by_cases hbd : 10 ≤ lv.toNat - 87
              · have hF : parsU 10 acc (c :: bs.drop (k + 1)) = .inr 2 := by simp only [parsU, hD]; rw [if_pos hbd]
                have HR := hid (hdec.trans hF)
                have ibd : 10 ≤ lv - 97 + 10 := by omega
                clear hacc hF ha hdec hD
                go_wp2_with (go_at_call 55; refine (HLw.out _).mono ?_; rintro e w' ⟨rfl, rfl⟩)
                all_goals go_ret2
                all_goals exact ⟨by rw [HR.out]; rfl, rfl⟩
              · exfalso; omega
            · have hD : digU c = 99 := by rw [hD0, if_neg hlet]
              have hF : parsU 10 acc (c :: bs.drop (k + 1)) = .inr 2 := by simp only [parsU, hD]; rw [if_pos (by omega)]
              have HR := hid (hdec.trans hF)
              clear hacc hF ha hdec hD hD0
              by_cases hl0 : 97 ≤ lv
              · have hl1 : ¬ lv ≤ 122 := fun h => hlet ⟨by omega, by omega⟩
                clear hlet
                go_wp2_with (go_at_call 55; refine (HLw.out _).mono ?_; rintro e w' ⟨rfl, rfl⟩)
                all_goals go_ret2
                all_goals exact ⟨by rw [HR.out]; rfl, rfl⟩
              · clear hlet
                go_wp2_with (go_at_call 55; refine (HLw.out _).mono ?_; rintro e w' ⟨rfl, rfl⟩)
                all_goals go_ret2
                all_goals exact ⟨by rw [HR.out]; rfl, rfl⟩
      · have hkk : k = t.size := by omega
        subst hkk
        have hF : parsU 10 acc (bs.drop t.size) = .inl acc := by rw [List.drop_eq_nil_of_le (by omega)]; rfl
        rw [hF] at hdec
        subst ha
        clear hacc hF a0 a1
        go_wp2
        go_ret2
        first | exact ⟨rfl, rfl⟩ | exact ⟨by rw [hdec]; rfl, rfl⟩
set_option maxRecDepth 100000 in
set_option maxHeartbeats 4000000 in
theorem parse_16 (t : ByteArray) (hne : t.size ≠ 0) (hmax : t.size ≤ 1048576) (w : World) :
    Calls Tryd.prog 40 #[.string t, .int .i64 16, .int .i64 63] w fun e w' => e = .returned (parsV (parsU 16 0 t.data.toList)) ∧ w' = Lib.bytesWorld w 5 t := by
  have hemp : t.toList.isEmpty = false := by
    rw [← decide_eq_emptyBytes]
    exact decide_eq_false (fun h => hne (by rw [h]; rfl))
  have hcv := Lib.run_convert_string_bytes (P := Tryd.prog) w 9 65 5 t (u := .string) Tryd.underlying9 Tryd.underlying65 Tryd.underlying5
  have hB : ∀ j, j < t.size → (Lib.bytesWorld w 5 t).cell? ⟨w.heap.size, j, none⟩ = some (.int .u8 (t.data.toList.getD j 0).toNat) := fun j hj => Lib.bytesWorld_cell w 5 t j hj
  obtain ⟨W1, hW1⟩ : ∃ W1, W1 = Lib.bytesWorld w 5 t := ⟨_, rfl⟩
  rw [← hW1] at hcv hB ⊢
  clear hW1
  obtain ⟨bs, hL⟩ : ∃ bs, bs = t.data.toList := ⟨_, rfl⟩
  have hLn : bs.length = t.size := by rw [hL, Lib.size_eq]
  rw [← hL] at hB ⊢
  clear hL
  have hmv : IntKind.u64.wrap (IntKind.u64.wrap 9223372036854775808 - 1) = 9223372036854775807 := by
    rw [IntKind.wrap_u64, IntKind.wrap_u64]
    decide
  · go_enter Tryd.func40, Tryd.ntmps40
    go_wp2
    go_loop [12, 13, 101] (fun vu vn vi => ∃ (k acc : Nat) (a : Int), vu = .bool false ∧ vn = .int .u64 a ∧ vi = .int .i64 k ∧ k ≤ t.size ∧ Hid (a = (acc : Int) ∧ acc ≤ 9223372036854775807 ∧ parsU 16 0 bs = parsU 16 acc (bs.drop k)))
      (fun _ _ vi => t.size - (intOf vi).toNat)
    case atStart => exact ⟨0, 0, 0, rfl, rfl, rfl, by omega, rfl, by omega, rfl⟩
    case round =>
      obtain ⟨k, acc, a, rfl, rfl, rfl, hk, hh⟩ := hrel
      obtain ⟨ha, hacc, hdec⟩ := hh.out
      clear hh
      have a0 : 0 ≤ a := by omega
      have a1 : a ≤ 9223372036854775807 := by omega
      by_cases hkn : k < t.size
      · have hc := hB k hkn
        have hdrop : bs.drop k = bs[k]'(by omega) :: bs.drop (k + 1) := List.drop_eq_getElem_cons (by omega)
        have hget : bs.getD k 0 = bs[k]'(by omega) := by simp [List.getD, List.getElem?_eq_getElem (show k < bs.length by omega)]
        rw [hdrop] at hdec
        rw [hget] at hc
        generalize bs[k]'(by omega) = c at hc hdec
        have hc256 : c.toNat < 256 := c.toNat_lt
        clear hB hdrop hget
        by_cases hdig : 48 ≤ c.toNat ∧ c.toNat ≤ 57
        · obtain ⟨hd0, hd1⟩ := hdig
          have hD : digU c = c.toNat - 48 := by simp [digU, hd0, hd1]
          by_cases hbd : 16 ≤ c.toNat - 48
          · exfalso; omega
          · have ibd : (c.toNat : Int) - 48 < 16 := by omega
            by_cases hcut : 1152921504606846976 ≤ acc
            · have hF : parsU 16 acc (c :: bs.drop (k + 1)) = .inr 1 := by simp only [parsU, hD]; rw [if_neg hbd, if_pos (by simpa [cutU] using hcut)]
              have HR := hid (hdec.trans hF)
              have icut : 1152921504606846976 ≤ a := by omega
              clear hcut hacc hF ha hdec hD
              go_wp2
              all_goals go_ret2
              all_goals exact ⟨by rw [HR.out]; rfl, rfl⟩
            · have icut : a < 1152921504606846976 := by omega
              by_cases hov : 9223372036854775807 < acc * 16 + (c.toNat - 48)
              · have hF : parsU 16 acc (c :: bs.drop (k + 1)) = .inr 1 := by simp only [parsU, hD]; rw [if_neg hbd, if_neg (by simpa [cutU] using hcut), if_pos hov]
                have HR := hid (hdec.trans hF)
                have iov : 9223372036854775807 < a * 16 + ((c.toNat : Int) - 48) := by omega
                clear hcut hacc hF hov ha hdec hD
                go_wp2
                all_goals go_ret2
                all_goals exact ⟨by rw [HR.out]; rfl, rfl⟩
              · have hF : parsU 16 acc (c :: bs.drop (k + 1)) = parsU 16 (acc * 16 + (c.toNat - 48)) (bs.drop (k + 1)) := by simp only [parsU, hD]; rw [if_neg hbd, if_neg (by simpa [cutU] using hcut), if_neg hov]
                have iov : a * 16 + ((c.toNat : Int) - 48) ≤ 9223372036854775807 := by omega
                have HN : Hid (a * 16 + ((c.toNat : Int) - 48) = ((acc * 16 + (c.toNat - 48) : Nat) : Int) ∧ acc * 16 + (c.toNat - 48) ≤ 9223372036854775807 ∧ parsU 16 0 bs = parsU 16 (acc * 16 + (c.toNat - 48)) (bs.drop (k + 1))) := hid ⟨by omega, by omega, hdec.trans hF⟩
                clear hcut hacc hF hov ha hdec hD
                go_wp2
                all_goals (refine ⟨⟨k + 1, acc * 16 + (c.toNat - 48), a * 16 + ((c.toNat : Int) - 48), rfl, (by first | rfl | (congr 1; omega)), (by first | rfl | (congr 1; omega)), by omega, HN⟩, by simp [intOf]; omega⟩)
        · by_cases h95 : c.toNat = 95
          · have hD : digU c = 99 := by unfold digU; rw [if_neg hdig, h95]; rfl
            have hF : parsU 16 acc (c :: bs.drop (k + 1)) = .inr 2 := by simp only [parsU, hD]; rw [if_pos (by omega)]
            have HR := hid (hdec.trans hF)
            have HLw := hid (fun W => lower_any 95 W)
            rw [show bits .or .u8 95 32 = 127 from rfl] at HLw
            rw [h95] at hc
            clear hacc hF ha hdec hD hdig hc256 h95
            go_wp2_with (go_at_call 55; refine (HLw.out _).mono ?_; rintro e w' ⟨rfl, rfl⟩)
            all_goals go_ret2
            all_goals exact ⟨by rw [HR.out]; rfl, rfl⟩
          · have hv0 := bits_lo_u8 .or (c.toNat : Int) 32
            have hv1 := bits_hi_u8 .or (c.toNat : Int) 32
            have hn95 : ((c.toNat : Int) == 95) = false := by simp; omega
            have hD0 : digU c = if 97 ≤ (bits .or .u8 c.toNat 32).toNat ∧ (bits .or .u8 c.toNat 32).toNat ≤ 122 then (bits .or .u8 c.toNat 32).toNat - 87 else 99 := by unfold digU; rw [if_neg hdig]
            have HLw := hid (fun W => lower_any (c.toNat : Int) W)
            generalize bits .or .u8 (c.toNat : Int) 32 = lv at hv0 hv1 hD0 HLw
            by_cases hlet : 97 ≤ lv.toNat ∧ lv.toNat ≤ 122
            · obtain ⟨hl0, hl1⟩ := hlet
              have hD : digU c = lv.toNat - 87 := by rw [hD0, if_pos ⟨hl0, hl1⟩]
              have il0 : 97 ≤ lv := by omega
              have il1 : lv ≤ 122 := by omega
              clear hD0
              by_cases hbd : 16 ≤ lv.toNat - 87
              · have hF : parsU 16 acc (c :: bs.drop (k + 1)) = .inr 2 := by simp only [parsU, hD]; rw [if_pos hbd]
                have HR := hid (hdec.trans hF)
                have ibd : 16 ≤ lv - 97 + 10 := by omega
                clear hacc hF ha hdec hD
                go_wp2_with (go_at_call 55; refine (HLw.out _).mono ?_; rintro e w' ⟨rfl, rfl⟩)
                all_goals go_ret2
                all_goals exact ⟨by rw [HR.out]; rfl, rfl⟩
              · have ibd : lv - 97 + 10 < 16 := by omega
                by_cases hcut : 1152921504606846976 ≤ acc
                · have hF : parsU 16 acc (c :: bs.drop (k + 1)) = .inr 1 := by simp only [parsU, hD]; rw [if_neg hbd, if_pos (by simpa [cutU] using hcut)]
                  have HR := hid (hdec.trans hF)
                  have icut : 1152921504606846976 ≤ a := by omega
                  clear hcut hacc hF ha hdec hD
                  go_wp2_with (go_at_call 55; refine (HLw.out _).mono ?_; rintro e w' ⟨rfl, rfl⟩)
                  all_goals go_ret2
                  all_goals exact ⟨by rw [HR.out]; rfl, rfl⟩
                · have icut : a < 1152921504606846976 := by omega
                  by_cases hov : 9223372036854775807 < acc * 16 + (lv.toNat - 87)
                  · have hF : parsU 16 acc (c :: bs.drop (k + 1)) = .inr 1 := by simp only [parsU, hD]; rw [if_neg hbd, if_neg (by simpa [cutU] using hcut), if_pos hov]
                    have HR := hid (hdec.trans hF)
                    have iov : 9223372036854775807 < a * 16 + (lv - 97 + 10) := by omega
                    clear hcut hacc hF hov ha hdec hD
                    go_wp2_with (go_at_call 55; refine (HLw.out _).mono ?_; rintro e w' ⟨rfl, rfl⟩)
                    all_goals go_ret2
                    all_goals exact ⟨by rw [HR.out]; rfl, rfl⟩
                  · have hF : parsU 16 acc (c :: bs.drop (k + 1)) = parsU 16 (acc * 16 + (lv.toNat - 87)) (bs.drop (k + 1)) := by simp only [parsU, hD]; rw [if_neg hbd, if_neg (by simpa [cutU] using hcut), if_neg hov]
                    have iov : a * 16 + (lv - 97 + 10) ≤ 9223372036854775807 := by omega
                    have HN : Hid (a * 16 + (lv - 97 + 10) = ((acc * 16 + (lv.toNat - 87) : Nat) : Int) ∧ acc * 16 + (lv.toNat - 87) ≤ 9223372036854775807 ∧ parsU 16 0 bs = parsU 16 (acc * 16 + (lv.toNat - 87)) (bs.drop (k + 1))) := hid ⟨by omega, by omega, hdec.trans hF⟩
                    clear hcut hacc hF hov ha hdec hD
                    go_wp2_with (go_at_call 55; refine (HLw.out _).mono ?_; rintro e w' ⟨rfl, rfl⟩)
                    all_goals (refine ⟨⟨k + 1, acc * 16 + (lv.toNat - 87), a * 16 + (lv - 97 + 10), rfl, (by first | rfl | (congr 1; omega)), (by first | rfl | (congr 1; omega)), by omega, HN⟩, by simp [intOf]; omega⟩)
            · have hD : digU c = 99 := by rw [hD0, if_neg hlet]
              have hF : parsU 16 acc (c :: bs.drop (k + 1)) = .inr 2 := by simp only [parsU, hD]; rw [if_pos (by omega)]
              have HR := hid (hdec.trans hF)
              clear hacc hF ha hdec hD hD0
              by_cases hl0 : 97 ≤ lv
              · have hl1 : ¬ lv ≤ 122 := fun h => hlet ⟨by omega, by omega⟩
                clear hlet
                go_wp2_with (go_at_call 55; refine (HLw.out _).mono ?_; rintro e w' ⟨rfl, rfl⟩)
                all_goals go_ret2
                all_goals exact ⟨by rw [HR.out]; rfl, rfl⟩
              · clear hlet
                go_wp2_with (go_at_call 55; refine (HLw.out _).mono ?_; rintro e w' ⟨rfl, rfl⟩)
                all_goals go_ret2
                all_goals exact ⟨by rw [HR.out]; rfl, rfl⟩
      · have hkk : k = t.size := by omega
        subst hkk
        have hF : parsU 16 acc (bs.drop t.size) = .inl acc := by rw [List.drop_eq_nil_of_le (by omega)]; rfl
        rw [hF] at hdec
        subst ha
        clear hacc hF a0 a1
        go_wp2
        go_ret2
        first | exact ⟨rfl, rfl⟩ | exact ⟨by rw [hdec]; rfl, rfl⟩
/-- ParseUint at one of the three bases, of 63 bits. -/
theorem parse_any (b : Nat) (hb : b = 8 ∨ b = 10 ∨ b = 16) (t : ByteArray) (hne : t.size ≠ 0) (hmax : t.size ≤ 1048576) (w : World) :
    Calls Tryd.prog 40 #[.string t, .int .i64 (b : Int), .int .i64 63] w fun e w' => e = .returned (parsV (parsU b 0 t.data.toList)) ∧ w' = Lib.bytesWorld w 5 t := by
  rcases hb with rfl | rfl | rfl
  · exact parse_8 t hne hmax w
  · exact parse_10 t hne hmax w
  · exact parse_16 t hne hmax w
end Go.Proofs.YtienjifhkmekcaaDoor
namespace Go.Proofs.YtienjifhkmekcaaDoor
open Go.RowKit Go.Shelf

/-- The number that bytes tell, at a base; nothing is none. -/
def parsE (b : Nat) (l : List UInt8) : Nat ⊕ Int := if l = [] then .inr 2 else parsU b 0 l

set_option maxRecDepth 100000 in
theorem parse_none (b : Int) (w : World) : Calls Tryd.prog 40 #[.string ⟨#[]⟩, .int .i64 b, .int .i64 63] w fun e w' => e = .returned (parsV (.inr 2)) ∧ w' = w := by
  go_enter Tryd.func40, Tryd.ntmps40
  go_wp2
  go_ret2
  exact ⟨rfl, rfl⟩

theorem inner_parse (b : Nat) (hb : b = 8 ∨ b = 10 ∨ b = 16) (t : ByteArray) (hmax : t.size ≤ 1048576) (w : World) :
    Calls Tryd.prog 40 #[.string t, .int .i64 (b : Int), .int .i64 63] w fun e w' => e = .returned (parsV (parsE b t.data.toList)) ∧ Below w.heap.size w w' := by
  unfold parsE
  by_cases h0 : t.size = 0
  · have ht : t = ⟨#[]⟩ := by
      apply ByteArray.ext
      exact Array.eq_empty_of_size_eq_zero h0
    subst ht
    refine (parse_none b w).mono ?_
    rintro e w' ⟨rfl, rfl⟩
    exact ⟨rfl, Below.refl _ _⟩
  · have hne : t.data.toList ≠ [] := fun h => h0 (by rw [Lib.size_eq, h]; rfl)
    rw [if_neg hne]
    refine (parse_any b hb t h0 hmax w).mono ?_
    rintro e w' ⟨rfl, rfl⟩
    exact ⟨rfl, Lib.bytesWorld_below _ _ _⟩

/-- What the public function leaves. -/
def PubPost (r : Nat ⊕ Int) (w : World) (e : Ending) (w' : World) : Prop := Below w.heap.size w w' ∧ match r with
  | .inl n => e = .returned (.tuple #[.int .u64 (n : Int), .nilIface])
  | .inr _ => ∃ x T p, e = .returned (.tuple #[.int .u64 x, .iface T p])

set_option maxRecDepth 100000 in
set_option maxHeartbeats 1000000 in
theorem pub_parse (b : Nat) (hb : b = 8 ∨ b = 10 ∨ b = 16) (t : ByteArray) (hmax : t.size ≤ 1048576) (w : World) (hE : Ev w) (hr : ∀ x, parsE b t.data.toList = .inr x → x = 1 ∨ x = 2) :
    Calls Tryd.prog 22 #[.string t, .int .i64 (b : Int), .int .i64 63] w (PubPost (parsE b t.data.toList) w) := by
  have HP := hid (inner_parse b hb t hmax w)
  have HE := hid hE
  rcases hq : parsE b t.data.toList with n | x
  · rw [hq] at HP
    unfold parsV at HP
    dsimp only at HP
    unfold PubPost
    dsimp only
    clear hq hr hE
    go_enter Tryd.func22, Tryd.ntmps22
    go_wp2_with fail
    refine HP.out.mono ?_
    rintro e w1 ⟨rfl, hb1⟩
    have HB := hid hb1
    clear HP hb1
    go_wp2_with fail
    go_ret2
    exact ⟨HB.out, rfl⟩
  · have hx := hr x hq
    rw [hq] at HP
    unfold parsV at HP
    dsimp only at HP
    unfold PubPost
    dsimp only
    clear hq hr hE
    rcases hx with rfl | rfl
    · go_enter Tryd.func22, Tryd.ntmps22
      go_wp2_with fail
      refine HP.out.mono ?_
      rintro e w1 ⟨rfl, hb1⟩
      obtain ⟨ev, h1, h2⟩ := (HE.out.below hb1).2
      have HT := hid (fun fn base => toError_range fn t base 63 ev w1 (by omega) h1 h2)
      have HB := hid hb1
      clear HP hb1 h1 h2
      go_wp2_with fail
      refine (HT.out _ _).mono ?_
      rintro e w2 ⟨N, rfl, _, _, hb2⟩
      have HB2 := hid (HB.out.trans (hb2.mono HB.out.size))
      clear hb2
      go_wp2_with fail
      go_ret2
      exact ⟨HB2.out, _, _, _, rfl⟩
    · go_enter Tryd.func22, Tryd.ntmps22
      go_wp2_with fail
      refine HP.out.mono ?_
      rintro e w1 ⟨rfl, hb1⟩
      obtain ⟨ev, h1, h2⟩ := (HE.out.below hb1).1
      have HT := hid (fun fn base => toError_syntax fn t base 63 ev w1 (by omega) h1 h2)
      have HB := hid hb1
      clear HP hb1 h1 h2
      go_wp2_with fail
      refine (HT.out _ _).mono ?_
      rintro e w2 ⟨N, rfl, _, _, hb2⟩
      have HB2 := hid (HB.out.trans (hb2.mono HB.out.size))
      clear hb2
      go_wp2_with fail
      go_ret2
      exact ⟨HB2.out, _, _, _, rfl⟩

theorem parsU_err (b : Nat) : ∀ (l : List UInt8) (acc : Nat) (x : Int), parsU b acc l = .inr x → x = 1 ∨ x = 2
  | [], _, _, h => by cases h
  | c :: r, acc, x, h => by
    unfold parsU at h
    split at h
    · cases h; exact .inr rfl
    · split at h
      · cases h; exact .inl rfl
      · split at h
        · cases h; exact .inl rfl
        · exact parsU_err b r _ x h
theorem parsE_err (b : Nat) (l : List UInt8) (x : Int) (h : parsE b l = .inr x) : x = 1 ∨ x = 2 := by
  unfold parsE at h
  split at h
  · cases h; exact .inr rfl
  · exact parsU_err b l 0 x h

/-- What is left of a text behind its first byte, without the letters at its end. -/
def cutL (l : List UInt8) : List UInt8 := l.take 1 ++ Lib.trimRightS (l.drop 1) [85, 117, 76, 108]
def optE (r : Nat ⊕ Int) : Option Int := match r with
  | .inl n => some (n : Int)
  | .inr _ => none
/-- The number that a text tells. -/
def numL (l : List UInt8) : Option Int :=
  if l = [] then none
  else if Lib.hasPrefix (cutL l) [48, 120] || Lib.hasPrefix (cutL l) [48, 88] then optE (parsE 16 ((cutL l).drop 2))
  else if (cutL l).headD 0 == 48 then optE (parsE 8 (cutL l))
  else optE (parsE 10 (cutL l))

theorem trim_len (l cs : List UInt8) : (Lib.trimRightS l cs).length ≤ l.length := by
  unfold Lib.trimRightS
  have := (List.dropWhile_sublist (l := l.reverse) (fun x => cs.contains x)).length_le
  simp at this ⊢
  exact this

theorem parsU_le (b : Nat) : ∀ (l : List UInt8) (acc n : Nat), acc ≤ 9223372036854775807 → parsU b acc l = .inl n → n ≤ 9223372036854775807
  | [], acc, n, h, e => by cases e; exact h
  | c :: r, acc, n, h, e => by
    unfold parsU at e
    split at e
    · cases e
    · split at e
      · cases e
      · split at e
        · cases e
        · exact parsU_le b r _ n (by omega) e
theorem parsE_le (b : Nat) (l : List UInt8) (n : Nat) (h : parsE b l = .inl n) : n ≤ 9223372036854775807 := by
  unfold parsE at h
  split at h
  · cases h
  · exact parsU_le b l 0 n (by omega) h
theorem head_is (S : ByteArray) (h : 0 < S.size) : S.data.toList.headD 0 = S[0]'h := by
  obtain ⟨⟨l⟩⟩ := S
  cases l with
  | nil => simp [ByteArray.size] at h
  | cons a r => rfl
theorem byte_eq {c : UInt8} (h : (c == (48 : UInt8)) = true) : ((c.toNat : Int) == 48) = true := by
  have : c = 48 := by simpa using h
  rw [this]; rfl
theorem byte_ne {c : UInt8} (h : (c == (48 : UInt8)) = false) : ((c.toNat : Int) == 48) = false := by
  rw [beq_eq_false_iff_ne] at h ⊢
  intro e
  apply h
  apply UInt8.toNat_inj.1
  have : c.toNat = 48 := by omega
  rw [this]; rfl
theorem prefix_two (l : List UInt8) (x y : UInt8) (h : Lib.hasPrefix l [x, y] = true) : 2 ≤ l.length := by
  rcases l with _ | ⟨a, _ | ⟨b, r⟩⟩
  · simp [Lib.hasPrefix] at h
  · simp [Lib.hasPrefix] at h
  · simp

set_option maxRecDepth 100000 in
set_option maxHeartbeats 1000000 in
theorem Num_any (s : ByteArray) (w : World) (hE : Ev w) (hs : s.size ≤ 1048576) : Calls Tryd.prog 7 #[.string s] w fun e w' => e = .returned (optV (numL s.data.toList)) ∧ Below w.heap.size w w' := by
  by_cases h0 : s.size = 0
  · have ht : s = ⟨#[]⟩ := by
      apply ByteArray.ext
      exact Array.eq_empty_of_size_eq_zero h0
    subst ht
    go_enter Tryd.func7, Tryd.ntmps7
    go_wp2
    go_ret2
    exact ⟨rfl, Below.refl _ _⟩
  · have hne : s.data.toList ≠ [] := fun h => h0 (by rw [Lib.size_eq, h]; rfl)
    have hemp : s.toList.isEmpty = false := by
      rw [← decide_eq_emptyBytes]
      exact decide_eq_false (fun h => h0 (by rw [h]; rfl))
    have HT := hid (fun p : Later w => TrimRight_any (s.extract 1 s.size) ⟨#[85, 117, 76, 108]⟩ p.W (by simp [ByteArray.size_extract]; omega) (by decide) (fun j b hb => by
      match j, hb with
      | 0, hb => cases hb; decide
      | 1, hb => cases hb; decide
      | 2, hb => cases hb; decide
      | 3, hb => cases hb; decide
      | j + 4, hb => simp at hb))
    have h1 : 1 ≤ s.size := by omega
    have hx0 : (s.extract 0 1).size = 1 := by simp [ByteArray.size_extract]; omega
    obtain ⟨T, hTd⟩ : ∃ T : ByteArray, T = ⟨(Lib.trimRightS (s.extract 1 s.size).data.toList [85, 117, 76, 108]).toArray⟩ := ⟨_, rfl⟩
    have hTs : T.size ≤ s.size - 1 := by
      rw [hTd]
      show (Lib.trimRightS (s.extract 1 s.size).data.toList [85, 117, 76, 108]).toArray.size ≤ s.size - 1
      have h2 := trim_len (s.extract 1 s.size).data.toList [85, 117, 76, 108]
      have h3 : (s.extract 1 s.size).data.toList.length = (s.extract 1 s.size).size := by simp
      have h4 : (s.extract 1 s.size).size = s.size - 1 := by simp [ByteArray.size_extract]
      rw [List.size_toArray]; omega
    have HT1 : Hid (∀ p : Later w, Calls Tryd.prog 20 #[.string (s.extract 1 s.size), .string ⟨#[85, 117, 76, 108]⟩] p.W fun e w' => e = .returned (.string T) ∧ Below p.W.heap.size p.W w') := fun p => by rw [hTd]; exact HT.out p
    have HTd : Hid ((s.extract 0 1 ++ T).data.toList = cutL s.data.toList) := by
      show _ = _
      rw [hTd]
      have e2 : (s.extract 1 s.size).data.toList = s.data.toList.drop 1 := by rw [Lib.extract_to_end]
      rw [e2]
      simp [cutL, ByteArray.data_append]
    clear hTd HT
    have h1i : (1 : Int) ≤ (s.size : Int) := by omega
    go_enter Tryd.func7, Tryd.ntmps7
    go_wp2_with fail
    have hnn : Nonempty (Later w) := ⟨⟨_, Below.refl _ _⟩⟩
    have HT2 : Hid (∀ W, Below w.heap.size w W → Calls Tryd.prog 20 #[.string (s.extract 1 s.size), .string ⟨#[85, 117, 76, 108]⟩] W fun e w' => e = .returned (.string T) ∧ Below W.heap.size W w') := fun W h => HT1.out ⟨W, h⟩
    clear HT1 hnn
    go_region_with (go_at_call 20; refine (HT2.out _ ?_).mono ?_; first | exact Below.refl _ _ | exact (Below.refl _ _).drew; rintro e w1 ⟨rfl, hb1⟩)
    have HB : Hid (Below w.heap.size w w1) := ((Below.refl _ w).drew).trans hb1
    have hSs : 1 ≤ (s.extract 0 1 ++ T).size := by rw [ByteArray.size_append]; omega
    have hSm : (s.extract 0 1 ++ T).size ≤ 1048576 := by rw [ByteArray.size_append]; omega
    generalize hSg : s.extract 0 1 ++ T = S at HTd hSs hSm ⊢
    have HNu : Hid (numL s.data.toList = if Lib.hasPrefix S.data.toList [48, 120] || Lib.hasPrefix S.data.toList [48, 88] then optE (parsE 16 (S.data.toList.drop 2)) else if S.data.toList.headD 0 == 48 then optE (parsE 8 S.data.toList) else optE (parsE 10 S.data.toList)) := by
      show _ = _
      unfold numL
      rw [if_neg hne, HTd.out]
    have HP1 := hid (fun W => HasPrefix_any S ⟨#[48, 120]⟩ W)
    have HP2 := hid (fun W => HasPrefix_any S ⟨#[48, 88]⟩ W)
    have HEv := hid hE
    clear hSg HTd hTs hx0 hb1 HT2 hemp hne hE h0 h1 h1i hs
    cases hp1 : Lib.hasPrefix S.data.toList [48, 120] with
    | true =>
      rw [hp1] at HNu
      simp only [Bool.true_or, if_true] at HNu
      have HQ1 : Hid (∀ W, Calls Tryd.prog 21 #[.string S, .string ⟨#[48, 120]⟩] W fun e w' => e = .returned (.bool true) ∧ w' = W) := fun W => by have := HP1.out W; rw [hp1] at this; exact this
      have h2 : 2 ≤ S.size := by have := prefix_two _ _ _ hp1; rw [Lib.size_eq]; exact this
      have h2i : (2 : Int) ≤ (S.size : Int) := by omega
      have HDr : Hid (S.data.toList.drop 2 = (S.extract 2 S.size).data.toList) := by show _ = _; rw [Lib.extract_to_end]
      clear HP1 HP2 hp1
      have HPu := hid (fun W (h : Ev W) => pub_parse 16 (by decide) (S.extract 2 S.size) (by simp [ByteArray.size_extract]; omega) W h (fun x hx => parsE_err _ _ x hx))
      rcases hq : parsE 16 (S.extract 2 S.size).data.toList with n | x
      · rw [hq] at HPu
        have hnl := parsE_le _ _ n hq
        have HNv : Hid (numL s.data.toList = some (n : Int)) := by show _ = _; rw [HNu.out, HDr.out, hq]; rfl
        have hnw : IntKind.i64.wrap (n : Int) = (n : Int) := by rw [IntKind.wrap_i64]; omega
        clear HNu hq
        go_wp2_with fail
        refine (HQ1.out _).mono ?_
        rintro e w2 ⟨rfl, rfl⟩
        go_wp2_with fail
        go_quiet (fail)
        have HBq := hid (below_drewN HB.out nq)
        clear HB
        obtain ⟨wz, hwz⟩ : ∃ wz, wz = w2.drewN nq := ⟨_, rfl⟩
        rw [← hwz] at HBq ⊢
        have HB := hid HBq.out
        clear HBq hwz
        go_wp2_with fail
        refine (HPu.out _ (HEv.out.below HB.out)).mono ?_
        rintro e w4 ⟨hb4, he4⟩
        dsimp only at he4
        subst he4
        have HB4 := hid (HB.out.trans (hb4.mono HB.out.size))
        clear HPu hb4
        go_wp2_with fail
        go_ret2
        exact ⟨by rw [HNv.out]; rfl, HB4.out⟩
      · rw [hq] at HPu
        have HNv : Hid (numL s.data.toList = none) := by show _ = _; rw [HNu.out, HDr.out, hq]; rfl
        clear HNu hq
        go_wp2_with fail
        refine (HQ1.out _).mono ?_
        rintro e w2 ⟨rfl, rfl⟩
        go_wp2_with fail
        go_quiet (fail)
        have HBq := hid (below_drewN HB.out nq)
        clear HB
        obtain ⟨wz, hwz⟩ : ∃ wz, wz = w2.drewN nq := ⟨_, rfl⟩
        rw [← hwz] at HBq ⊢
        have HB := hid HBq.out
        clear HBq hwz
        go_wp2_with fail
        refine (HPu.out _ (HEv.out.below HB.out)).mono ?_
        rintro e w4 ⟨hb4, x4, T4, p4, rfl⟩
        have HB4 := hid (HB.out.trans (hb4.mono HB.out.size))
        clear HPu hb4
        go_wp2_with fail
        go_ret2
        exact ⟨by rw [HNv.out]; rfl, HB4.out⟩
    | false =>
      cases hp2 : Lib.hasPrefix S.data.toList [48, 88] with
      | true =>
        rw [hp1, hp2] at HNu
        simp only [Bool.or_true, if_true] at HNu
        have HQ1 : Hid (∀ W, Calls Tryd.prog 21 #[.string S, .string ⟨#[48, 120]⟩] W fun e w' => e = .returned (.bool false) ∧ w' = W) := fun W => by have := HP1.out W; rw [hp1] at this; exact this
        have HQ2 : Hid (∀ W, Calls Tryd.prog 21 #[.string S, .string ⟨#[48, 88]⟩] W fun e w' => e = .returned (.bool true) ∧ w' = W) := fun W => by have := HP2.out W; rw [hp2] at this; exact this
        have h2 : 2 ≤ S.size := by have := prefix_two _ _ _ hp2; rw [Lib.size_eq]; exact this
        have h2i : (2 : Int) ≤ (S.size : Int) := by omega
        have HDr : Hid (S.data.toList.drop 2 = (S.extract 2 S.size).data.toList) := by show _ = _; rw [Lib.extract_to_end]
        clear HP1 HP2 hp1 hp2
        have HPu := hid (fun W (h : Ev W) => pub_parse 16 (by decide) (S.extract 2 S.size) (by simp [ByteArray.size_extract]; omega) W h (fun x hx => parsE_err _ _ x hx))
        rcases hq : parsE 16 (S.extract 2 S.size).data.toList with n | x
        · rw [hq] at HPu
          have hnl := parsE_le _ _ n hq
          have HNv : Hid (numL s.data.toList = some (n : Int)) := by show _ = _; rw [HNu.out, HDr.out, hq]; rfl
          have hnw : IntKind.i64.wrap (n : Int) = (n : Int) := by rw [IntKind.wrap_i64]; omega
          clear HNu hq
          go_wp2_with fail
          refine (HQ1.out _).mono ?_
          rintro e w2 ⟨rfl, rfl⟩
          go_wp2_with fail
          refine (HQ2.out _).mono ?_
          rintro e w3 ⟨rfl, rfl⟩
          go_wp2_with fail
          go_quiet (fail)
          have HBq := hid (below_drewN HB.out nq)
          clear HB
          obtain ⟨wz, hwz⟩ : ∃ wz, wz = w3.drewN nq := ⟨_, rfl⟩
          rw [← hwz] at HBq ⊢
          have HB := hid HBq.out
          clear HBq hwz
          go_wp2_with fail
          refine (HPu.out _ (HEv.out.below HB.out)).mono ?_
          rintro e w4 ⟨hb4, he4⟩
          dsimp only at he4
          subst he4
          have HB4 := hid (HB.out.trans (hb4.mono HB.out.size))
          clear HPu hb4
          go_wp2_with fail
          go_ret2
          exact ⟨by rw [HNv.out]; rfl, HB4.out⟩
        · rw [hq] at HPu
          have HNv : Hid (numL s.data.toList = none) := by show _ = _; rw [HNu.out, HDr.out, hq]; rfl
          clear HNu hq
          go_wp2_with fail
          refine (HQ1.out _).mono ?_
          rintro e w2 ⟨rfl, rfl⟩
          go_wp2_with fail
          refine (HQ2.out _).mono ?_
          rintro e w3 ⟨rfl, rfl⟩
          go_wp2_with fail
          go_quiet (fail)
          have HBq := hid (below_drewN HB.out nq)
          clear HB
          obtain ⟨wz, hwz⟩ : ∃ wz, wz = w3.drewN nq := ⟨_, rfl⟩
          rw [← hwz] at HBq ⊢
          have HB := hid HBq.out
          clear HBq hwz
          go_wp2_with fail
          refine (HPu.out _ (HEv.out.below HB.out)).mono ?_
          rintro e w4 ⟨hb4, x4, T4, p4, rfl⟩
          have HB4 := hid (HB.out.trans (hb4.mono HB.out.size))
          clear HPu hb4
          go_wp2_with fail
          go_ret2
          exact ⟨by rw [HNv.out]; rfl, HB4.out⟩
      | false =>
        rw [hp1, hp2] at HNu
        simp only [Bool.or_self, Bool.false_eq_true, if_false] at HNu
        have HQ1 : Hid (∀ W, Calls Tryd.prog 21 #[.string S, .string ⟨#[48, 120]⟩] W fun e w' => e = .returned (.bool false) ∧ w' = W) := fun W => by have := HP1.out W; rw [hp1] at this; exact this
        have HQ2 : Hid (∀ W, Calls Tryd.prog 21 #[.string S, .string ⟨#[48, 88]⟩] W fun e w' => e = .returned (.bool false) ∧ w' = W) := fun W => by have := HP2.out W; rw [hp2] at this; exact this
        have hhd : S.data.toList.headD 0 = S[0]'(by omega) := head_is S (by omega)
        rw [hhd] at HNu
        clear HP1 HP2 hp1 hp2 hhd
        cases h48 : (S[0]'(by omega) == (48 : UInt8)) with
        | true =>
          rw [h48] at HNu
          simp only [if_true] at HNu
          have h48i : (((S[0]'(by omega)).toNat : Int) == 48) = true := byte_eq h48
          clear h48
          have HPu := hid (fun W (h : Ev W) => pub_parse 8 (by decide) S (by omega) W h (fun x hx => parsE_err _ _ x hx))
          rcases hq : parsE 8 S.data.toList with n | x
          · rw [hq] at HPu
            have hnl := parsE_le _ _ n hq
            have HNv : Hid (numL s.data.toList = some (n : Int)) := by show _ = _; rw [HNu.out, hq]; rfl
            have hnw : IntKind.i64.wrap (n : Int) = (n : Int) := by rw [IntKind.wrap_i64]; omega
            clear HNu hq
            go_wp2_with fail
            refine (HQ1.out _).mono ?_
            rintro e w2 ⟨rfl, rfl⟩
            go_wp2_with fail
            refine (HQ2.out _).mono ?_
            rintro e w3 ⟨rfl, rfl⟩
            go_wp2_with fail
            refine (HPu.out _ (HEv.out.below HB.out)).mono ?_
            rintro e w4 ⟨hb4, he4⟩
            dsimp only at he4
            subst he4
            have HB4 := hid (HB.out.trans (hb4.mono HB.out.size))
            clear HPu hb4
            go_wp2_with fail
            go_ret2
            exact ⟨by rw [HNv.out]; rfl, HB4.out⟩
          · rw [hq] at HPu
            have HNv : Hid (numL s.data.toList = none) := by show _ = _; rw [HNu.out, hq]; rfl
            clear HNu hq
            go_wp2_with fail
            refine (HQ1.out _).mono ?_
            rintro e w2 ⟨rfl, rfl⟩
            go_wp2_with fail
            refine (HQ2.out _).mono ?_
            rintro e w3 ⟨rfl, rfl⟩
            go_wp2_with fail
            refine (HPu.out _ (HEv.out.below HB.out)).mono ?_
            rintro e w4 ⟨hb4, x4, T4, p4, rfl⟩
            have HB4 := hid (HB.out.trans (hb4.mono HB.out.size))
            clear HPu hb4
            go_wp2_with fail
            go_ret2
            exact ⟨by rw [HNv.out]; rfl, HB4.out⟩
        | false =>
          rw [h48] at HNu
          simp only [Bool.false_eq_true, if_false] at HNu
          have h48i : (((S[0]'(by omega)).toNat : Int) == 48) = false := byte_ne h48
          clear h48
          have HPu := hid (fun W (h : Ev W) => pub_parse 10 (by decide) S (by omega) W h (fun x hx => parsE_err _ _ x hx))
          rcases hq : parsE 10 S.data.toList with n | x
          · rw [hq] at HPu
            have hnl := parsE_le _ _ n hq
            have HNv : Hid (numL s.data.toList = some (n : Int)) := by show _ = _; rw [HNu.out, hq]; rfl
            have hnw : IntKind.i64.wrap (n : Int) = (n : Int) := by rw [IntKind.wrap_i64]; omega
            clear HNu hq
            go_wp2_with fail
            refine (HQ1.out _).mono ?_
            rintro e w2 ⟨rfl, rfl⟩
            go_wp2_with fail
            refine (HQ2.out _).mono ?_
            rintro e w3 ⟨rfl, rfl⟩
            go_wp2_with fail
            refine (HPu.out _ (HEv.out.below HB.out)).mono ?_
            rintro e w4 ⟨hb4, he4⟩
            dsimp only at he4
            subst he4
            have HB4 := hid (HB.out.trans (hb4.mono HB.out.size))
            clear HPu hb4
            go_wp2_with fail
            go_ret2
            exact ⟨by rw [HNv.out]; rfl, HB4.out⟩
          · rw [hq] at HPu
            have HNv : Hid (numL s.data.toList = none) := by show _ = _; rw [HNu.out, hq]; rfl
            clear HNu hq
            go_wp2_with fail
            refine (HQ1.out _).mono ?_
            rintro e w2 ⟨rfl, rfl⟩
            go_wp2_with fail
            refine (HQ2.out _).mono ?_
            rintro e w3 ⟨rfl, rfl⟩
            go_wp2_with fail
            refine (HPu.out _ (HEv.out.below HB.out)).mono ?_
            rintro e w4 ⟨hb4, x4, T4, p4, rfl⟩
            have HB4 := hid (HB.out.trans (hb4.mono HB.out.size))
            clear HPu hb4
            go_wp2_with fail
            go_ret2
            exact ⟨by rw [HNv.out]; rfl, HB4.out⟩
end Go.Proofs.YtienjifhkmekcaaDoor
