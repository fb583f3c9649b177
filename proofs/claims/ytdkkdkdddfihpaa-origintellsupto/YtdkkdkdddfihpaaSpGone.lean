/- Walks of HasPrefix and gone: what is left out at the beginning of a text. -/
import Derived.Test.YtdkkdkdddfihpaaSpFacts
namespace Go.Proofs.Ytdkkdkdddfihpaa
open Go.RowKit

theorem toList_data (s : ByteArray) : s.toList = s.data.toList := ByteArray.toList_eq s
theorem extract_data (s : ByteArray) (i j : Nat) : (s.extract i j).data.toList = (s.data.toList.take j).drop i := by
  simp [ByteArray.data_extract, Array.toList_extract, List.drop_take]
theorem size_data (s : ByteArray) : s.data.toList.length = s.size := by simp

theorem prefix_iff (p s : List UInt8) : p.isPrefixOf s = true ↔ s.take p.length = p := by
  rw [List.isPrefixOf_iff_prefix, List.prefix_iff_eq_take]
  exact ⟨fun h => h.symm, fun h => h.symm⟩

set_option maxHeartbeats 400000 in
theorem hasPrefix_any (s p : ByteArray) (w : World) :
    Calls Try.prog 22 #[.string s, .string p] w fun e w' => e = .returned (.bool (p.data.toList.isPrefixOf s.data.toList)) ∧ w' = w := by
  go_enter Try.func22, Try.ntmps22
  go_wp2
  all_goals go_ret
  all_goals refine ⟨ret_bool (bool_ext ?_), rfl⟩
  · rw [prefix_iff, beq_iff_eq, toList_data, toList_data, extract_data, size_data]; simp
  · rename_i h
    rw [prefix_iff]
    simp only [Bool.false_eq_true, false_iff]
    intro h2
    have := congrArg List.length h2
    simp at this
    omega

theorem pre2 (a b : UInt8) (l : List UInt8) : ([a, b].isPrefixOf l) = decide (l[0]? = some a ∧ l[1]? = some b) := by
  rcases l with _ | ⟨x, _ | ⟨y, r⟩⟩ <;> simp [List.isPrefixOf] <;> (try (rw [Bool.eq_iff_iff]; simp; constructor <;> (rintro ⟨h1, h2⟩; exact ⟨h1.symm, h2.symm⟩)))
theorem pre3 (a b c : UInt8) (l : List UInt8) : ([a, b, c].isPrefixOf l) = decide (l[0]? = some a ∧ l[1]? = some b ∧ l[2]? = some c) := by
  rcases l with _ | ⟨x, _ | ⟨y, _ | ⟨z, r⟩⟩⟩ <;> simp [List.isPrefixOf] <;> (try (rw [Bool.eq_iff_iff]; simp; constructor <;> (rintro ⟨h1, h2, h3⟩; exact ⟨h1.symm, h2.symm, h3.symm⟩)))

theorem goneAt_eq (l : List UInt8) : goneAt l 0 = if [92, 10].isPrefixOf l then 2 else if [92, 13, 10].isPrefixOf l then 3 else if [13, 10].isPrefixOf l then 1 else 0 := by
  simp only [goneAt, pre2, pre3, decide_eq_true_eq]

set_option maxHeartbeats 400000 in
theorem gone_any (s : ByteArray) (w : World) :
    Calls Try.prog 20 #[.string s] w fun e w' => e = .returned (.int .i64 (goneAt s.data.toList 0)) ∧ w' = w := by
  have H := fun p w => hasPrefix_any s p w
  go_enter Try.func20, Try.ntmps20
  go_wp2_with (go_at_call 22; refine (H _ _).mono ?_; rintro e w' ⟨rfl, rfl⟩)
  all_goals go_ret
  all_goals (refine ⟨ret_int ?_, rfl⟩; rw [goneAt_eq]; simp [*])
end Go.Proofs.Ytdkkdkdddfihpaa
