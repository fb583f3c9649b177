/- Plain facts of a text's pieces between slashes: byte by byte, and as the library's Split has them. -/
import Derived.Test.YthklodlhbafehaaDoorSeq
namespace Go.Proofs.YthklodlhbafehaaDoor
open Go.RowKit

def toB (l : List UInt8) : ByteArray := ⟨l.toArray⟩
theorem toB_data (s : ByteArray) : toB s.data.toList = s := rfl
theorem data_toB (l : List UInt8) : (toB l).data.toList = l := rfl
theorem size_toB (l : List UInt8) : (toB l).size = l.length := by simp [toB, ByteArray.size]

/-- The pieces between slashes. -/
def pcsL : List UInt8 → List (List UInt8)
  | [] => [[]]
  | c :: r => if c = 47 then [] :: pcsL r else match pcsL r with | p :: q => (c :: p) :: q | [] => [[c]]

theorem pcsL_ne (l : List UInt8) : pcsL l ≠ [] := by
  cases l with
  | nil => simp [pcsL]
  | cons c r =>
    unfold pcsL
    split
    · simp
    · split <;> simp

theorem pcsL_slash (l : List UInt8) : pcsL (l ++ [47]) = pcsL l ++ [[]] := by
  induction l with
  | nil => simp [pcsL]
  | cons c r ih =>
    rw [List.cons_append, pcsL, ih]
    by_cases h : c = 47
    · rw [if_pos h]; simp [pcsL, h]
    · rw [if_neg h, pcsL, if_neg h]
      cases hp : pcsL r with
      | nil => exact absurd hp (pcsL_ne r)
      | cons p q => rfl

theorem pcsL_other (l : List UInt8) (c : UInt8) (hc : c ≠ 47) : ∀ (i : List (List UInt8)) (x : List UInt8), pcsL l = i ++ [x] → pcsL (l ++ [c]) = i ++ [x ++ [c]] := by
  induction l with
  | nil =>
    intro i x h
    have h' : [([] : List UInt8)] = i ++ [x] := h
    cases i with
    | nil => simp at h'; subst h'; simp [pcsL, hc]
    | cons a b => simp at h'
  | cons d r ih =>
    intro i x h
    rw [pcsL] at h
    rw [List.cons_append, pcsL]
    by_cases hd : d = 47
    · rw [if_pos hd] at h ⊢
      cases i with
      | nil => simp at h; exact absurd h.2 (pcsL_ne r)
      | cons a b =>
        rw [List.cons_append] at h
        injection h with h1 h2
        rw [ih b x h2, ← h1]; rfl
    · rw [if_neg hd] at h ⊢
      cases hp : pcsL r with
      | nil => exact absurd hp (pcsL_ne r)
      | cons p q =>
        rw [hp] at h
        dsimp only at h
        cases i with
        | nil =>
          simp at h
          obtain ⟨rfl, rfl⟩ := h
          rw [ih [] p hp]
          rfl
        | cons a b =>
          rw [List.cons_append] at h
          injection h with h1 h2
          rw [ih (p :: b) x (by rw [hp, h2]; rfl), List.cons_append, ← h1]
          rfl

theorem pcsL_last (l : List UInt8) : ∃ i x, pcsL l = i ++ [x] := by
  have h := pcsL_ne l
  exact ⟨(pcsL l).dropLast, (pcsL l).getLast h, (List.dropLast_concat_getLast h).symm⟩

/-- No piece holds a slash. -/
theorem pcsL_free (l : List UInt8) : ∀ p ∈ pcsL l, 47 ∉ p := by
  induction l with
  | nil => intro p hp; simp [pcsL] at hp; subst hp; simp
  | cons c r ih =>
    intro p hp
    rw [pcsL] at hp
    by_cases h : c = 47
    · rw [if_pos h] at hp
      rcases List.mem_cons.1 hp with rfl | hp
      · simp
      · exact ih p hp
    · rw [if_neg h] at hp
      cases hq : pcsL r with
      | nil => exact absurd hq (pcsL_ne r)
      | cons a b =>
        rw [hq] at hp
        dsimp only at hp
        rcases List.mem_cons.1 hp with rfl | hp
        · have := ih a (by rw [hq]; simp)
          simp only [List.mem_cons, not_or]
          exact ⟨fun e => h e.symm, this⟩
        · exact ih p (by rw [hq]; simp [hp])

/-- The pieces, with a slash ahead of each, are the text with a slash ahead. -/
theorem pcsL_join (l : List UInt8) : (pcsL l).flatMap (fun p => 47 :: p) = 47 :: l := by
  induction l with
  | nil => simp [pcsL]
  | cons c r ih =>
    rw [pcsL]
    by_cases h : c = 47
    · rw [if_pos h, List.flatMap_cons, ih, h]; rfl
    · rw [if_neg h]
      cases hq : pcsL r with
      | nil => exact absurd hq (pcsL_ne r)
      | cons a b =>
        rw [hq] at ih
        simp only [List.flatMap_cons, List.cons_append, List.cons.injEq, true_and] at ih ⊢
        exact ih

theorem indexByte_ge (l : List UInt8) (c : UInt8) : -1 ≤ Lib.indexByte l c := by
  induction l with
  | nil => simp [Lib.indexByte]
  | cons b r ih =>
    unfold Lib.indexByte
    split
    · omega
    · split
      · omega
      · omega

theorem indexByte_below (l : List UInt8) (c : UInt8) (i : Nat) (h : Lib.indexByte l c = i) : i < l.length := by
  induction l generalizing i with
  | nil => simp [Lib.indexByte] at h
  | cons b r ih =>
    unfold Lib.indexByte at h
    split at h
    · simp; omega
    · split at h
      · omega
      · cases i with
        | zero => simp
        | succ j => have := ih j (by push_cast at h; omega); simp; omega

theorem pcsL_miss (l : List UInt8) (h : Lib.indexByte l 47 = -1) : pcsL l = [l] := by
  induction l with
  | nil => rfl
  | cons c r ih =>
    unfold Lib.indexByte at h
    by_cases hc : c = 47
    · subst hc; simp at h
    · have hb : (c == 47) = false := by simpa using hc
      rw [hb] at h
      simp only [Bool.false_eq_true, if_false] at h
      by_cases hi : Lib.indexByte r 47 = -1
      · rw [pcsL, if_neg hc, ih hi]
      · rw [if_neg (by simpa using hi)] at h
        have h0 := indexByte_ge r 47
        omega

theorem pcsL_hit (l : List UInt8) : ∀ (i : Nat), Lib.indexByte l 47 = i → pcsL l = l.take i :: pcsL (l.drop (i + 1)) := by
  induction l with
  | nil => intro i h; simp [Lib.indexByte] at h
  | cons c r ih =>
    intro i h
    unfold Lib.indexByte at h
    by_cases hc : c = 47
    · subst hc
      simp at h
      obtain rfl : i = 0 := by omega
      simp [pcsL]
    · have hb : (c == 47) = false := by simpa using hc
      rw [hb] at h
      simp only [Bool.false_eq_true, if_false] at h
      by_cases hi : Lib.indexByte r 47 = -1
      · rw [if_pos (by simpa using hi)] at h; omega
      · rw [if_neg (by simpa using hi)] at h
        cases i with
        | zero => have := indexByte_ge r 47; omega
        | succ j =>
          rw [pcsL, if_neg hc, ih j (by push_cast at h; omega)]
          rfl

theorem pcsB_eq (s : ByteArray) : pcsB s = (pcsL s.data.toList).map toB := by
  generalize hn : s.size = n
  induction n using Nat.strongRecOn generalizing s with
  | _ n ih =>
    by_cases hm : Lib.indexByte s.data.toList 47 = -1
    · rw [pcsB_miss s hm, pcsL_miss _ hm]; rfl
    · obtain ⟨i, hi⟩ : ∃ i : Nat, Lib.indexByte s.data.toList 47 = i := ⟨(Lib.indexByte s.data.toList 47).toNat, by have := indexByte_ge s.data.toList 47; omega⟩
      have hlt : i < s.size := by
        rcases Nat.lt_or_ge i s.size with h | h
        · exact h
        · have := (indexByte_below s.data.toList 47 i hi); simp at this; exact this
      have hd : (s.extract (i + 1) s.size).data.toList = s.data.toList.drop (i + 1) := by
        simp only [ByteArray.data_extract, Array.toList_extract, List.extract]
        rw [List.take_of_length_le (by simp)]
      have ht : s.extract 0 i = toB (s.data.toList.take i) := by
        rw [← toB_data (s.extract 0 i)]
        simp [ByteArray.data_extract, Array.toList_extract, List.extract]
      rw [pcsB_hit s i hi, pcsL_hit _ i hi, ih (s.extract (i + 1) s.size).size (by simp [ByteArray.size_extract]; omega) _ rfl, hd, ht]
      rfl

end Go.Proofs.YthklodlhbafehaaDoor
