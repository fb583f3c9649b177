/- Walks of inName and isName: each call returns what a plain function on bytes says, and leaves the world as it was. -/
import Derived.Test.YthklodlhbafehaaDoorRows
import Derived.WalkKit
import Derived.WalkSpells
import Derived.WalkLawsBesides
namespace Go.Proofs.YthklodlhbafehaaDoor
open Go.RowKit

def inNameB (c : Int) : Bool := (97 ≤ c && c ≤ 122) || (65 ≤ c && c ≤ 90) || (48 ≤ c && c ≤ 57) || c == 46 || c == 95

theorem inNameB_iff (c : Int) : inNameB c = true ↔ (97 ≤ c ∧ c ≤ 122) ∨ (65 ≤ c ∧ c ≤ 90) ∨ (48 ≤ c ∧ c ≤ 57) ∨ c = 46 ∨ c = 95 := by
  simp [inNameB, or_assoc]

theorem hid {p : Prop} (h : p) : Hid p := h
theorem ret_bool {a b : Bool} (h : a = b) : Ending.returned (.bool a) = .returned (.bool b) := by rw [h]
theorem bool_ext {a b : Bool} (h : a = true ↔ b = true) : a = b := by cases a <;> cases b <;> simp_all

set_option maxHeartbeats 400000 in
theorem inName_any (c : Int) (w : World) :
    Calls Tryd.prog 38 #[.int .u8 c] w fun e w' => e = .returned (.bool (inNameB c)) ∧ w' = w := by
  go_enter Tryd.func38, Tryd.ntmps38
  go_wp2
  all_goals go_ret
  all_goals (refine ⟨ret_bool (bool_ext ?_), rfl⟩; rw [inNameB_iff]; try simp only [Bool.or_eq_true, beq_iff_eq, true_iff])
  all_goals first | omega | simp

def nameOk (l : List UInt8) : Bool := l != [] && l != [46] && l != [46, 46] && l.all fun c => inNameB c.toNat

theorem take_snoc (s : ByteArray) (k : Nat) (h : k < s.size) : s.data.toList.take (k + 1) = s.data.toList.take k ++ [s[k]] := by
  rw [List.take_succ_eq_append_getElem (by simpa using h)]; rfl

theorem all_false {l : List UInt8} {p : UInt8 → Bool} {x : UInt8} (hm : x ∈ l) (hx : p x = false) : l.all p = false := by
  rw [List.all_eq_false]; exact ⟨x, hm, by simp [hx]⟩
theorem byte_mem (s : ByteArray) (k : Nat) (h : k < s.size) : s[k] ∈ s.data.toList := by
  show s.data[k] ∈ s.data.toList; simp

theorem nameOk_mk {l : List UInt8} (h0 : l.isEmpty = false) (h1 : (l == [46]) = false) (h2 : (l == [46, 46]) = false) : nameOk l = l.all fun c => inNameB c.toNat := by
  have h0' : (l == []) = false := by cases l <;> simp_all
  simp [nameOk, bne, h0', h1, h2]

set_option maxHeartbeats 400000 in
theorem isName_any (s : ByteArray) (w : World) (hs : s.size ≤ maxLen) :
    Calls Tryd.prog 22 #[.string s] w fun e w' => e = .returned (.bool (nameOk s.data.toList)) ∧ w' = w := by
  unfold maxLen at hs
  have HL : Hid (s.data.toList = s.toList) := (ByteArray.toList_eq s).symm
  by_cases h : s.toList.isEmpty = true ∨ (s.toList == [46]) = true ∨ (s.toList == [46, 46]) = true
  · have hno : nameOk s.data.toList = false := by
      rw [HL.out]; simp [nameOk]; intro a b c
      rcases h with h | h | h
      · simp_all
      · simp_all
      · simp_all
    have HNo := hid hno
    clear hno
    go_enter Tryd.func22, Tryd.ntmps22
    go_wp2
    all_goals first | (go_ret; exact ⟨ret_bool HNo.out.symm, rfl⟩) | (exfalso; simp_all; done)
  · obtain ⟨h0, h1, h2⟩ : s.toList.isEmpty = false ∧ (s.toList == [46]) = false ∧ (s.toList == [46, 46]) = false := by
      simpa [not_or] using h
    have HOk : Hid (nameOk s.data.toList = s.data.toList.all fun c => inNameB c.toNat) := by rw [HL.out]; exact nameOk_mk h0 h1 h2
    clear h
    go_enter Tryd.func22, Tryd.ntmps22
    go_wp2
    go_loop [3] (fun i => ∃ k : Nat, k ≤ s.size ∧ i = .int .i64 k ∧ Hid ((s.data.toList.take k).all (fun c => inNameB c.toNat) = true)) (fun i => s.size - (intOf i).toNat)
    case atStart => exact ⟨0, Nat.zero_le _, rfl, by simp [Hid]⟩
    case round =>
      obtain ⟨k, hk, rfl, HA⟩ := hrel
      by_cases hlt : k < s.size
      · have HS := hid (take_snoc s k hlt)
        cases hb : inNameB (s[k].toNat : Int) with
        | true =>
          have HB := hid hb
          go_wp2_with (go_at_call 38; refine (inName_any _ _).mono ?_; rintro e w' ⟨rfl, rfl⟩)
          go_round
          case rel => exact ⟨k + 1, by omega, by go_num, by show _ = true; rw [HS.out, List.all_append, HA.out]; simpa using HB.out⟩
          case measure => simp [intOf]; omega
        | false =>
          have HB := hid hb
          go_wp2_with (go_at_call 38; refine (inName_any _ _).mono ?_; rintro e w' ⟨rfl, rfl⟩)
          go_ret
          refine ⟨ret_bool ?_, rfl⟩
          rw [HOk.out]
          exact (all_false (byte_mem s k hlt) HB.out).symm
      · go_wp2
        go_ret
        exact ⟨ret_bool (by rw [HOk.out, ← HA.out, List.take_of_length_le (by simp; omega)]), rfl⟩

end Go.Proofs.YthklodlhbafehaaDoor
