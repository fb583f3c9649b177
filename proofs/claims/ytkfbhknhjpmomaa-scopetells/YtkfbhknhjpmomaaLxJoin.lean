/- Walks of Sticks and Join. -/
import Derived.Test.YtkfbhknhjpmomaaLxTokens
import Derived.Test.YtkfbhknhjpmomaaLxBuild
namespace Go.Proofs.Ytkfbhknhjpmomaa
open Go.RowKit Go.Shelf

def noTk : Tk := ⟨0, ⟨#[]⟩, false, false, 0, 0, 0, 0⟩
/-- Whether a, with b right behind, is read as anything but these two. -/
def sticksB (a b : ByteArray) : Bool :=
  (((toksF 0 (a.data.toList ++ b.data.toList)).1.length : Int) != 2) || (((toksF 0 (a.data.toList ++ b.data.toList)).1.getD 0 noTk).text.toList != a.toList) || (((toksF 0 (a.data.toList ++ b.data.toList)).1.getD 1 noTk).text.toList != b.toList)

theorem cat_data (a b : ByteArray) : (a ++ b).data.toList = a.data.toList ++ b.data.toList := by simp [ByteArray.data_append]

/-- A token's text in a row of them, with a blank ahead of it where that is wanted. -/
def joinAt (ts : List Tk) (k : Nat) : List UInt8 :=
  (if 0 < k && ((ts.getD k noTk).space || sticksB (ts.getD (k - 1) noTk).text (ts.getD k noTk).text) then [32] else []) ++ (ts.getD k noTk).text.data.toList
def joinN (ts : List Tk) (k : Nat) : List UInt8 := (List.range k).flatMap (joinAt ts)
def joinL (ts : List Tk) : List UInt8 := joinN ts ts.length
theorem joinN_succ (ts : List Tk) (k : Nat) : joinN ts (k + 1) = joinN ts k ++ joinAt ts k := by simp [joinN, List.range_succ]

/-- Not much longer than so many texts. -/
theorem joinN_le (ts : List Tk) (M : Nat) (h : ∀ t ∈ ts, t.text.size ≤ M) : ∀ k, k ≤ ts.length → (joinN ts k).length ≤ k * (M + 1)
  | 0, _ => by simp [joinN]
  | k + 1, hk => by
    have ih := joinN_le ts M h k (by omega)
    have ht : (ts.getD k noTk).text.data.toList.length ≤ M := by
      rw [List.getD, List.getElem?_eq_getElem (by omega), size_data]; exact h _ (List.getElem_mem (by omega))
    rw [joinN_succ, List.length_append, joinAt, List.length_append, Nat.add_mul]
    split <;> simp at * <;> omega

theorem join_if {J1 J0 A tt : List UInt8} {b : Bool} (h : J1 = J0 ++ A) (hA : A = (if b then [32] else []) ++ tt) : (b = true → J1 = (J0 ++ [32]) ++ tt) ∧ (b = false → J1 = J0 ++ tt) := by
  subst hA
  refine ⟨fun e => ?_, fun e => ?_⟩
  · subst e; rw [h]; simp
  · subst e; rw [h]; simp

end Go.Proofs.Ytkfbhknhjpmomaa
