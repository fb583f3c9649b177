/- Plain facts: tokens are at most as many as bytes, and no longer than the text. · Plain facts: no token is empty. -/
import Derived.Test.YtkfbhknhjpmomaaLxTokens
namespace Go.Proofs.Ytkfbhknhjpmomaa
section
open Go.RowKit

theorem pcsF_few (s : List UInt8) : ∀ (f i : Nat) (acc A : List Pc), i ≤ s.length → pcsF s f i acc = .inr A → ∃ qs, A = acc ++ qs ∧ qs.length ≤ s.length - i
  | 0, _, acc, A, _, h => by cases h; exact ⟨[], by simp, by simp⟩
  | f + 1, i, acc, A, hi, h => by
    have hs := skip_to s i false (i == 0) hi
    unfold pcsF at h
    generalize skip s i false (i == 0) = g at h hs
    obtain ⟨k, sp, fi, lk⟩ := g
    dsimp only at h hs
    split at h
    · cases h
    · split at h
      · cases h; exact ⟨[], by simp, by simp⟩
      · rename_i hk
        split at h
        · cases h
        · rename_i hm
          have hle := pick_le (s.drop k) (!fi && behind s acc) (by simp; omega)
          have hl : (s.drop k).length = s.length - k := by simp
          have hn : k + (pick (sizes (s.drop k) (!fi && behind s acc))).2.toNat ≤ s.length ∧ 0 < (pick (sizes (s.drop k) (!fi && behind s acc))).2.toNat := by
            rcases hle with h' | ⟨h1, h2⟩
            · exact absurd h' hm
            · omega
          obtain ⟨qs, q1, q2⟩ := pcsF_few s f _ _ A hn.1 h
          exact ⟨_ :: qs, by rw [q1, List.append_assoc]; rfl, by rw [List.length_cons]; omega⟩

/-- Tokens are few, and their texts short. -/
theorem toks_small (file : Int) (l : List UInt8) : (toksF file l).1.length ≤ 3000 ∧ ∀ t ∈ (toksF file l).1, t.text.size ≤ 3000 := by
  have hk : (bytesAt l (kept l)).length ≤ l.length := by rw [bytesAt_length]; exact (went_kept l).few
  unfold toksF
  split
  · exact ⟨by simp, fun t ht => by cases ht⟩
  · rename_i h3
    rcases hp : pcs (bytesAt l (kept l)) with k | ps
    · exact ⟨by simp, fun t ht => by cases ht⟩
    · dsimp only
      obtain ⟨qs, q1, q2⟩ := pcsF_few _ _ 0 [] ps (Nat.zero_le _) hp
      rw [List.nil_append] at q1
      refine ⟨by rw [tksOf_length, q1]; omega, fun t ht => ?_⟩
      unfold tksOf at ht
      obtain ⟨p, _, rfl⟩ := List.mem_map.1 ht
      show (textOfPc (bytesAt l (kept l)) p).toArray.size ≤ 3000
      rw [List.size_toArray]
      unfold textOfPc
      rw [List.length_drop, List.length_take]
      omega
end
section
open Go.RowKit

theorem pcsF_full (s : List UInt8) : ∀ (f i : Nat) (acc A : List Pc), i ≤ s.length → (∀ p ∈ acc, p.lo < p.hi ∧ p.hi ≤ s.length) → pcsF s f i acc = .inr A → ∀ p ∈ A, p.lo < p.hi ∧ p.hi ≤ s.length
  | 0, _, acc, A, _, ha, h => by cases h; exact ha
  | f + 1, i, acc, A, hi, ha, h => by
    have hs := skip_to s i false (i == 0) hi
    unfold pcsF at h
    generalize skip s i false (i == 0) = g at h hs
    obtain ⟨k, sp, fi, lk⟩ := g
    dsimp only at h hs
    split at h
    · cases h
    · split at h
      · cases h; exact ha
      · rename_i hk
        split at h
        · cases h
        · rename_i hm
          have hle := pick_le (s.drop k) (!fi && behind s acc) (by simp; omega)
          have hl : (s.drop k).length = s.length - k := by simp
          have hn : k + (pick (sizes (s.drop k) (!fi && behind s acc))).2.toNat ≤ s.length ∧ 0 < (pick (sizes (s.drop k) (!fi && behind s acc))).2.toNat := by
            rcases hle with h' | ⟨h1, h2⟩
            · exact absurd h' hm
            · omega
          refine pcsF_full s f _ _ A hn.1 (fun p hp => ?_) h
          rcases List.mem_append.1 hp with hp | hp
          · exact ha p hp
          · rw [List.mem_singleton] at hp
            subst hp
            dsimp only
            omega
/-- No token is empty. -/
theorem toks_full (file : Int) (l : List UInt8) : ∀ t ∈ (toksF file l).1, t.text.size ≠ 0 := by
  unfold toksF
  split
  · exact fun t ht => by cases ht
  · rcases hp : pcs (bytesAt l (kept l)) with k | ps
    · exact fun t ht => by cases ht
    · dsimp only
      have hf := pcsF_full _ _ 0 [] ps (Nat.zero_le _) (fun p hp => by cases hp) hp
      intro t ht
      unfold tksOf at ht
      obtain ⟨p, hpm, rfl⟩ := List.mem_map.1 ht
      show (textOfPc (bytesAt l (kept l)) p).toArray.size ≠ 0
      rw [List.size_toArray]
      unfold textOfPc
      have := hf p hpm
      rw [List.length_drop, List.length_take]
      omega
end
end Go.Proofs.Ytkfbhknhjpmomaa
