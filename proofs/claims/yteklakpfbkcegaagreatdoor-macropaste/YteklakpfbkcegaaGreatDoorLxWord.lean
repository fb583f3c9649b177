/- Walks of Letter, Digit, inName, span, nameSize, Name and numberSize. -/
import Derived.Test.YteklakpfbkcegaaGreatDoorLxFacts
import Derived.Test.YteklakpfbkcegaaGreatDoorSpGone
import Derived.Deep.QuietTactic
import Derived.BigQuiet
namespace Go.Proofs.YteklakpfbkcegaaGreatDoor
open Go.RowKit

theorem Letter_any (c : UInt8) (w : World) :
    Calls Tryz.prog 110 #[.int .u8 (c.toNat : Int)] w fun e w' => e = .returned (.bool (letB c)) ∧ w' = w := by
  go_enter Tryz.func110, Tryz.ntmps110
  go_wp2
  all_goals go_ret
  all_goals exact ⟨ret_bool (bool_ext (by simp [letB]; omega)), rfl⟩

theorem Digit_any (c : UInt8) (w : World) :
    Calls Tryz.prog 114 #[.int .u8 (c.toNat : Int)] w fun e w' => e = .returned (.bool (digB c)) ∧ w' = w := by
  go_enter Tryz.func114, Tryz.ntmps114
  go_wp2
  all_goals go_ret
  all_goals exact ⟨ret_bool (bool_ext (by simp [digB]; omega)), rfl⟩

theorem inName_any (c : UInt8) (w : World) :
    Calls Tryz.prog 112 #[.int .u8 (c.toNat : Int)] w fun e w' => e = .returned (.bool (wordB c)) ∧ w' = w := by
  go_enter Tryz.func112, Tryz.ntmps112
  go_wp2_with (first | (go_at_call 110; refine (Letter_any c _).mono ?_; rintro e w' ⟨rfl, hww⟩; subst w') | (go_at_call 114; refine (Digit_any c _).mono ?_; rintro e w' ⟨rfl, hww⟩; subst w'))
  all_goals go_ret
  all_goals exact ⟨ret_bool (by simp [wordB, *]), rfl⟩

/-- What a closure over one variable answers, of every number from 1 below n. -/
def Holds (f B : Nat) (q : Nat → Bool) (n : Nat) (w : World) : Prop :=
  ∀ i : Nat, 1 ≤ i → i < n → Calls Tryz.prog f #[.int .i64 (i : Int), .pointer (some ⟨B, 0, none⟩)] w fun e w' => e = .returned (.bool (q i)) ∧ w' = w

set_option maxHeartbeats 400000 in
theorem span_any (s : ByteArray) (f B : Nat) (q : Nat → Bool) (w : World) (eg : ∀ args w, (callFunc f args).run Tryz.prog w = .ok (.enter f args) w) (hq : Holds f B q s.size w) (h1 : 1 ≤ s.size) (hs : s.size ≤ maxLen) :
    Calls Tryz.prog 101 #[.string s, .func (.func f) #[] #[.pointer (some ⟨B, 0, none⟩)]] w fun e w' => e = .returned (.int .i64 (spanN q s.size : Nat)) ∧ w' = w := by
  unfold maxLen at hs
  go_enter Tryz.func101, Tryz.ntmps101
  go_wp2
  go_loop [5] (fun x => ∃ k : Nat, 1 ≤ k ∧ k ≤ s.size ∧ x = .int .i64 k ∧ Hid (∀ i, 1 ≤ i → i < k → q i = true)) (fun x => s.size - (intOf x).toNat)
  case atStart => exact ⟨1, Nat.le_refl _, h1, rfl, fun i h h' => by omega⟩
  case round =>
    obtain ⟨k, hk1, hk, rfl, HN⟩ := hrel
    by_cases hlt : k < s.size
    · have HC := hid (hq k hk1 hlt)
      cases hqk : q k with
      | true =>
        rw [hqk] at HC
        have HN2 : Hid (∀ i, 1 ≤ i → i < k + 1 → q i = true) := fun i h h' => by
          by_cases hi : i = k
          · subst hi; exact hqk
          · exact HN.out i h (by omega)
        clear hqk hq
        go_wp2_with (refine HC.out.mono ?_; rintro e w' ⟨rfl, hww⟩; subst w')
        go_round
        case rel => exact ⟨k + 1, by omega, by omega, by go_num, HN2.out⟩
        case measure => simp [intOf]; omega
      | false =>
        rw [hqk] at HC
        have HE := hid (spanN_eq q s.size k hk1 hk HN.out (fun _ => hqk))
        clear hqk hq
        go_wp2_with (refine HC.out.mono ?_; rintro e w' ⟨rfl, hww⟩; subst w')
        go_ret
        exact ⟨ret_int (by rw [HE.out]), rfl⟩
    · have HE := hid (spanN_eq q s.size k hk1 hk HN.out (fun h => absurd h hlt))
      clear hq
      go_wp2
      go_ret
      exact ⟨ret_int (by rw [HE.out]), rfl⟩

theorem byte_at (s : ByteArray) (i : Nat) (h : i < s.size) : s[i] = byteAt s.data.toList i := by
  symm
  apply byteAt_eq
  rw [List.getElem?_eq_getElem (by rw [size_data]; exact h)]
  rfl

theorem nameSize1_any (s : ByteArray) (B i : Nat) (w : World) (hi : i < s.size) (hB : w.cell? ⟨B, 0, none⟩ = some (.string s)) :
    Calls Tryz.prog 111 #[.int .i64 (i : Int), .pointer (some ⟨B, 0, none⟩)] w fun e w' => e = .returned (.bool (wordB (byteAt s.data.toList i))) ∧ w' = w := by
  have HC := hid (inName_any s[i] w)
  have HB := hid (byte_at s i hi)
  go_enter Tryz.func111, Tryz.ntmps111
  go_wp2_with (go_at_call 112; refine HC.out.mono ?_; rintro e w' ⟨rfl, hww⟩; subst w')
  go_ret
  exact ⟨ret_bool (by rw [HB.out]), rfl⟩
end Go.Proofs.YteklakpfbkcegaaGreatDoor
