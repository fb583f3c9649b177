/- Lines joined, as plain functions on bytes: which bytes stay, in order, and what holds of them. -/
import Derived.Test.YtdkkdkdddfihpaaRows
import Derived.WalkKit
import Derived.WalkSpells
import Derived.WalkLawsBesides
namespace Go.Proofs.Ytdkkdkdddfihpaa
open Go.RowKit

theorem hid {p : Prop} (h : p) : Hid p := h
theorem ret_bool {a b : Bool} (h : a = b) : Ending.returned (.bool a) = .returned (.bool b) := by rw [h]
theorem ret_int {a b : Int} (h : a = b) : Ending.returned (.int .i64 a) = .returned (.int .i64 b) := by rw [h]
theorem bool_ext {a b : Bool} (h : a = true ↔ b = true) : a = b := by cases a <;> cases b <;> simp_all

/-- How many bytes are left out at place i. -/
def goneAt (l : List UInt8) (i : Nat) : Nat :=
  if l[i]? = some 92 ∧ l[i + 1]? = some 10 then 2
  else if l[i]? = some 92 ∧ l[i + 1]? = some 13 ∧ l[i + 2]? = some 10 then 3
  else if l[i]? = some 13 ∧ l[i + 1]? = some 10 then 1
  else 0

theorem goneAt_drop (l : List UInt8) (i : Nat) : goneAt (l.drop i) 0 = goneAt l i := by
  simp [goneAt]

theorem goneAt_le (l : List UInt8) (i : Nat) (h : goneAt l i ≠ 0) : i + goneAt l i ≤ l.length := by
  have H : ∀ (k : Nat) (c : UInt8), l[k]? = some c → k < l.length := fun k c hk => (List.getElem?_eq_some_iff.1 hk).1
  unfold goneAt at *
  split at h
  · rename_i h1; rw [if_pos h1]; have := H _ _ h1.2; omega
  · split at h
    · rename_i h1 h2; rw [if_neg h1, if_pos h2]; have := H _ _ h2.2.2; omega
    · split at h
      · rename_i h1 h2 h3; rw [if_neg h1, if_neg h2, if_pos h3]; have := H _ _ h3.2; omega
      · exact absurd rfl h

/-- What a pass over l has done ahead of place i: the places that stay. -/
def Went (l : List UInt8) (i : Nat) (ps : List Nat) : Prop :=
  ∀ P : Nat → List Nat → Prop, P 0 [] → (∀ i ps, P i ps → goneAt l i ≠ 0 → P (i + goneAt l i) ps) →
    (∀ i ps, P i ps → i < l.length → goneAt l i = 0 → P (i + 1) (ps ++ [i])) → P i ps
theorem Went.start {l : List UInt8} : Went l 0 [] := fun _ h _ _ => h
theorem Went.gone {l : List UInt8} {i : Nat} {ps : List Nat} (h : Went l i ps) (hg : goneAt l i ≠ 0) : Went l (i + goneAt l i) ps :=
  fun P a b c => b i ps (h P a b c) hg
theorem Went.keep {l : List UInt8} {i : Nat} {ps : List Nat} (h : Went l i ps) (hi : i < l.length) (hg : goneAt l i = 0) : Went l (i + 1) (ps ++ [i]) :=
  fun P a b c => c i ps (h P a b c) hi hg
theorem Went.rounds {l : List UInt8} {motive : (i : Nat) → (ps : List Nat) → Went l i ps → Prop} (start : motive 0 [] .start)
    (gone : ∀ {i ps} (hw : Went l i ps) (hg : goneAt l i ≠ 0), motive i ps hw → motive (i + goneAt l i) ps (hw.gone hg))
    (keep : ∀ {i ps} (hw : Went l i ps) (hi : i < l.length) (hg : goneAt l i = 0), motive i ps hw → motive (i + 1) (ps ++ [i]) (hw.keep hi hg))
    {i : Nat} {ps : List Nat} (h : Went l i ps) : motive i ps h :=
  (h (fun i ps => ∃ hw : Went l i ps, motive i ps hw) ⟨_, start⟩ (fun _ _ h hg => ⟨_, gone h.1 hg h.2⟩) (fun _ _ h hi hg => ⟨_, keep h.1 hi hg h.2⟩)).2

/-- The places that stay, from place i, in at most so many steps. -/
def keptF (l : List UInt8) : Nat → Nat → List Nat
  | 0, _ => []
  | f + 1, i => if i < l.length then (if goneAt l i = 0 then i :: keptF l f (i + 1) else keptF l f (i + goneAt l i)) else []
def kept (l : List UInt8) : List Nat := keptF l l.length 0

theorem Went.le {l : List UInt8} {i : Nat} {ps : List Nat} (h : Went l i ps) : i ≤ l.length := by
  induction h using Went.rounds with
  | start => omega
  | gone _ hg ih => exact goneAt_le l _ hg
  | keep _ hi _ ih => omega

theorem Went.kept {l : List UInt8} {i : Nat} {ps : List Nat} (h : Went l i ps) : ∃ f, l.length ≤ i + f ∧ kept l = ps ++ keptF l f i := by
  induction h using Went.rounds with
  | start => exact ⟨l.length, by omega, rfl⟩
  | @gone i ps hw hg ih =>
    obtain ⟨f, hf, hk⟩ := ih
    have hi : i < l.length := by have := goneAt_le l i hg; have := Nat.pos_of_ne_zero hg; omega
    cases f with
    | zero => omega
    | succ f => exact ⟨f, by have := Nat.pos_of_ne_zero hg; omega, by rw [hk, keptF, if_pos hi, if_neg hg]⟩
  | @keep i ps hw hi hg ih =>
    obtain ⟨f, hf, hk⟩ := ih
    cases f with
    | zero => omega
    | succ f => exact ⟨f, by omega, by rw [hk, keptF, if_pos hi, if_pos hg]; simp⟩

/-- At the end the places that stay are those. -/
theorem Went.done {l : List UInt8} {ps : List Nat} (h : Went l l.length ps) : ps = Go.Proofs.Ytdkkdkdddfihpaa.kept l := by
  obtain ⟨f, hf, hk⟩ := h.kept
  rw [hk]
  cases f <;> simp [keptF]

theorem went_kept (l : List UInt8) : Went l l.length (kept l) := by
  have H : ∀ n i ps, l.length ≤ i + n → Went l i ps → ∃ ps, Went l l.length ps := by
    intro n
    induction n with
    | zero => intro i ps hn hw; have := hw.le; obtain rfl : i = l.length := by omega
              exact ⟨ps, hw⟩
    | succ n ih =>
      intro i ps hn hw
      by_cases hi : i < l.length
      · by_cases hg : goneAt l i = 0
        · exact ih _ _ (by omega) (hw.keep hi hg)
        · exact ih _ _ (by have := Nat.pos_of_ne_zero hg; omega) (hw.gone hg)
      · have := hw.le; obtain rfl : i = l.length := by omega
        exact ⟨ps, hw⟩
  obtain ⟨ps, h⟩ := H l.length 0 [] (by omega) .start
  rw [← h.done]; exact h

theorem Went.rising {l : List UInt8} {i : Nat} {ps : List Nat} (h : Went l i ps) : ps.Pairwise (· < ·) ∧ ∀ p ∈ ps, p < i := by
  induction h using Went.rounds with
  | start => exact ⟨List.Pairwise.nil, by simp⟩
  | gone _ hg ih => exact ⟨ih.1, fun p hp => by have := ih.2 p hp; omega⟩
  | keep _ hi hg ih =>
    refine ⟨?_, fun p hp => ?_⟩
    · rw [List.pairwise_append]
      exact ⟨ih.1, by simp, fun a ha b hb => by simp at hb; subst hb; exact ih.2 a ha⟩
    · simp at hp
      rcases hp with hp | rfl
      · have := ih.2 p hp; omega
      · omega

theorem Went.few {l : List UInt8} {i : Nat} {ps : List Nat} (h : Went l i ps) : ps.length ≤ i := by
  induction h using Went.rounds with
  | start => simp
  | gone _ hg ih => omega
  | keep _ hi hg ih => simp; omega

def bytesAt (l : List UInt8) (ps : List Nat) : List UInt8 := ps.map fun p => l.getD p 0

theorem bytesAt_snoc (l : List UInt8) (ps : List Nat) (i : Nat) (c : UInt8) (h : l[i]? = some c) : bytesAt l (ps ++ [i]) = bytesAt l ps ++ [c] := by
  simp [bytesAt, List.getD, h]
@[simp] theorem bytesAt_length (l : List UInt8) (ps : List Nat) : (bytesAt l ps).length = ps.length := by simp [bytesAt]

end Go.Proofs.Ytdkkdkdddfihpaa
