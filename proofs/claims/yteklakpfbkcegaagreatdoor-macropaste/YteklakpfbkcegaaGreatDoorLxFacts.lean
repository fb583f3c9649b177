/- Plain facts of pieces: none is empty, none reaches beyond the text. -/
import Derived.Test.YteklakpfbkcegaaGreatDoorLxSpec
namespace Go.Proofs.YteklakpfbkcegaaGreatDoor
open Go.RowKit

theorem quotGo_le (q : UInt8) : ∀ (l : List UInt8) (i : Nat), quotGo q l i = -1 ∨ ((i : Int) + 1 ≤ quotGo q l i ∧ quotGo q l i ≤ i + l.length)
  | [], _ => .inl rfl
  | [c], i => by
    unfold quotGo
    by_cases h1 : c = 10
    · rw [if_pos h1]; exact .inl rfl
    · rw [if_neg h1]
      by_cases h2 : c = q
      · rw [if_pos h2]; right; simp
      · rw [if_neg h2]; exact .inl rfl
  | c :: d :: r, i => by
    unfold quotGo
    by_cases h1 : c = 10
    · rw [if_pos h1]; exact .inl rfl
    · rw [if_neg h1]
      by_cases h2 : c = q
      · rw [if_pos h2]; right; simp; omega
      · rw [if_neg h2]
        by_cases h3 : c = 92 ∧ d ≠ 10
        · rw [if_pos h3]
          rcases quotGo_le q r (i + 2) with h | h
          · exact .inl h
          · right; simp only [List.length_cons]; push_cast at h ⊢; omega
        · rw [if_neg h3]
          rcases quotGo_le q (d :: r) (i + 1) with h | h
          · exact .inl h
          · right; simp only [List.length_cons] at h ⊢; push_cast at h ⊢; omega
theorem quotSz_le (q : UInt8) (l : List UInt8) : quotSz q l = -1 ∨ (0 ≤ quotSz q l ∧ quotSz q l ≤ l.length) := by
  unfold quotSz
  cases l with
  | nil => right; simp
  | cons c r =>
    simp only
    by_cases h : c = q
    · rw [if_pos h]
      rcases quotGo_le q r 1 with h | h
      · exact .inl h
      · right; simp only [List.length_cons]; push_cast at h ⊢; omega
    · rw [if_neg h]; right; simp; omega
theorem nameSz_le (l : List UInt8) : nameSz l ≤ l.length := by
  unfold nameSz
  cases l with
  | nil => simp
  | cons c r =>
    rw [if_neg (by simp)]
    split
    · exact (spanN_le _ _ (by simp)).2
    · omega
theorem numSz_le (l : List UInt8) : numSz l ≤ l.length := by
  unfold numSz
  cases l with
  | nil => simp [startsNum]
  | cons c r =>
    split
    · exact (spanN_le _ _ (by simp)).2
    · omega
theorem pathSz_le (l : List UInt8) : pathSz l ≤ l.length := by
  unfold pathSz
  split
  · rename_i h; have := (List.getElem?_eq_some_iff.1 h.2).1; omega
  · omega
theorem signSz_le (l : List UInt8) : signSz l ≤ l.length := by
  unfold signSz
  cases h : signsL.find? (·.isPrefixOf l) with
  | none => simp
  | some s =>
    have := List.find?_some h
    simp only at this ⊢
    rw [List.isPrefixOf_iff_prefix] at this
    exact this.length_le

theorem pick_of (l : List UInt8) (hl : 1 ≤ l.length) : ∀ (ss : List (Int × Int)), (∀ p ∈ ss, p.1 ≠ -1 ∧ (p.2 = -1 ∨ (0 ≤ p.2 ∧ p.2 ≤ l.length))) → (pick ss).1 = -1 ∨ (0 < (pick ss).2 ∧ (pick ss).2 ≤ l.length)
  | [], _ => by right; simp [pick]; omega
  | (k, n) :: r, h => by
    unfold pick
    by_cases h1 : n = -1
    · rw [if_pos h1]; exact .inl rfl
    · rw [if_neg h1]
      by_cases h2 : 0 < n
      · rw [if_pos h2]
        have := (h (k, n) (by simp)).2
        right; simp only at this ⊢; omega
      · rw [if_neg h2]; exact pick_of l hl r (fun p hp => h p (by simp [hp]))
theorem sizes_of (l : List UInt8) (path : Bool) : ∀ p ∈ sizes l path, p.1 ≠ -1 ∧ (p.2 = -1 ∨ (0 ≤ p.2 ∧ p.2 ≤ l.length)) := by
  intro p hp
  have h1 := nameSz_le l
  have h2 := numSz_le l
  have h3 := quotSz_le 34 l
  have h4 := quotSz_le 39 l
  have h5 := pathSz_le l
  have h6 := signSz_le l
  simp only [sizes, List.mem_cons, List.not_mem_nil, or_false] at hp
  rcases hp with rfl | rfl | rfl | rfl | rfl | rfl
  · simp only; omega
  · simp only; omega
  · exact ⟨show (4 : Int) ≠ -1 by decide, h3⟩
  · exact ⟨show (3 : Int) ≠ -1 by decide, h4⟩
  · cases path <;> simp <;> omega
  · simp only; omega
theorem pick_le (l : List UInt8) (path : Bool) (hl : 1 ≤ l.length) : (pick (sizes l path)).1 = -1 ∨ (0 < (pick (sizes l path)).2 ∧ (pick (sizes l path)).2 ≤ l.length) :=
  pick_of l hl _ (sizes_of l path)

theorem noteEnd_le : ∀ (l : List UInt8) (i k : Nat), noteEnd l i = some k → i ≤ k ∧ k + 2 ≤ i + l.length
  | [], _, _, h => by cases h
  | [_], _, _, h => by cases h
  | c :: d :: r, i, k, h => by
    unfold noteEnd at h
    by_cases h1 : c = 42 ∧ d = 47
    · rw [if_pos h1] at h; cases h; simp
    · rw [if_neg h1] at h
      have := noteEnd_le (d :: r) (i + 1) k h
      simp only [List.length_cons] at this ⊢
      omega
theorem blankSz_le (l : List UInt8) : blankSz l = -1 ∨ (0 ≤ blankSz l ∧ blankSz l ≤ l.length) := by
  unfold blankSz
  cases l with
  | nil => right; simp
  | cons c r =>
    simp only
    by_cases h1 : c = 32 ∨ c = 9 ∨ c = 10 ∨ c = 13
    · rw [if_pos h1]; right; simp; omega
    · rw [if_neg h1]
      by_cases h2 : c = 47 ∧ r.head? = some 47
      · rw [if_pos h2]
        have := (spanN_le (fun i => byteAt (c :: r) i != 10) (c :: r).length (by simp)).2
        right; constructor
        · exact Int.natCast_nonneg _
        · exact Int.ofNat_le.2 this
      · rw [if_neg h2]
        by_cases h3 : c = 47 ∧ r.head? = some 42
        · rw [if_pos h3]
          cases h : noteEnd r.tail 0 with
          | none => exact .inl rfl
          | some k =>
            have := noteEnd_le _ _ _ h
            have hr : r.tail.length + 1 = r.length := by
              cases r with
              | nil => simp at h3
              | cons _ _ => simp
            right; simp only [List.length_cons]; push_cast; omega
        · rw [if_neg h3]; right; simp; omega

theorem skipF_ge (s : List UInt8) : ∀ (f i : Nat) (sp fi : Bool), i ≤ (skipF s f i sp fi).to
  | 0, i, _, _ => Nat.le_refl _
  | f + 1, i, sp, fi => by
    unfold skipF
    split
    · exact Nat.le_refl _
    · split
      · exact Nat.le_refl _
      · exact Nat.le_trans (Nat.le_add_right _ _) (skipF_ge s f _ _ _)
theorem skipF_le (s : List UInt8) : ∀ (f i : Nat) (sp fi : Bool), i ≤ s.length → (skipF s f i sp fi).to ≤ s.length
  | 0, i, _, _, h => h
  | f + 1, i, sp, fi, h => by
    unfold skipF
    split
    · exact h
    · split
      · exact h
      · refine skipF_le s f _ _ _ ?_
        have := blankSz_le (s.drop i)
        simp only [List.length_drop] at this
        omega
theorem skip_to (s : List UInt8) (i : Nat) (sp fi : Bool) (h : i ≤ s.length) : i ≤ (skip s i sp fi).to ∧ (skip s i sp fi).to ≤ s.length :=
  ⟨skipF_ge _ _ _ _ _, skipF_le _ _ _ _ _ h⟩

end Go.Proofs.YteklakpfbkcegaaGreatDoor
