/- Plain facts: lines of tokens are all of them, in order; a line's first one is a first one, the others are not. -/
import Derived.Test.YtoedgcpfomgagaaDoorLxLines
import Derived.Test.YtoedgcpfomgagaaDoorRxFacts
namespace Go.Proofs.YtoedgcpfomgagaaDoor
open Go.RowKit Go.Shelf

/-- A line, as LexTells asks. -/
def lineOk (g : List Tk) : Prop := ∃ t r, g = t :: r ∧ t.first = true ∧ ∀ x ∈ r, x.first = false
theorem addTk_flat (gs : List (List Tk)) (t : Tk) : (addTk gs t).flatten = gs.flatten ++ [t] := by
  unfold addTk
  rcases hr : gs.reverse with _ | ⟨g, r⟩
  · have : gs = [] := by simpa using hr
    subst this; rfl
  · have hg : gs = r.reverse ++ [g] := by have := congrArg List.reverse hr; simpa using this
    dsimp only
    split
    · simp
    · rw [hg]; simp
theorem linesF_flat_from (ts : List Tk) : ∀ gs, (ts.foldl addTk gs).flatten = gs.flatten ++ ts := by
  induction ts with
  | nil => intro gs; simp
  | cons t r ih => intro gs; rw [List.foldl_cons, ih, addTk_flat]; simp
theorem linesF_flat (ts : List Tk) : (linesF ts).flatten = ts := by
  have := linesF_flat_from ts []
  simpa [linesF] using this
theorem addTk_ok (gs : List (List Tk)) (t : Tk) (h : ∀ g ∈ gs, lineOk g) (h0 : gs = [] → t.first = true) : ∀ g ∈ addTk gs t, lineOk g := by
  unfold addTk
  rcases hr : gs.reverse with _ | ⟨g, r⟩
  · have : gs = [] := by simpa using hr
    intro g hg
    dsimp only at hg
    have : g = [t] := by simpa using hg
    exact ⟨t, [], this, h0 (by assumption), fun x hx => by cases hx⟩
  · have hg : gs = r.reverse ++ [g] := by have := congrArg List.reverse hr; simpa using this
    dsimp only
    split
    · rename_i hf
      intro x hx
      rcases List.mem_append.1 hx with hx | hx
      · exact h x hx
      · have : x = [t] := by simpa using hx
        exact ⟨t, [], this, hf, fun x hx => by cases hx⟩
    · rename_i hf
      intro x hx
      rcases List.mem_append.1 hx with hx | hx
      · exact h x (by rw [hg]; exact List.mem_append_left _ hx)
      · have hxe : x = g ++ [t] := by simpa using hx
        obtain ⟨u, v, h1, h2, h3⟩ := h g (by rw [hg]; simp)
        refine ⟨u, v ++ [t], by rw [hxe, h1]; rfl, h2, fun y hy => ?_⟩
        rcases List.mem_append.1 hy with hy | hy
        · exact h3 y hy
        · have : y = t := by simpa using hy
          rw [this]; simpa using hf
theorem addTk_ne (gs : List (List Tk)) (t : Tk) : addTk gs t ≠ [] := by
  unfold addTk
  split
  · simp
  · split <;> simp
theorem linesF_ok_from (ts : List Tk) : ∀ gs, (∀ g ∈ gs, lineOk g) → (gs = [] → ∀ t, ts.head? = some t → t.first = true) → ∀ g ∈ ts.foldl addTk gs, lineOk g := by
  induction ts with
  | nil => intro gs h _; exact h
  | cons t r ih =>
    intro gs h h0
    rw [List.foldl_cons]
    exact ih _ (addTk_ok gs t h (fun e => h0 e t rfl)) (fun e => absurd e (addTk_ne gs t))
theorem linesF_ok (ts : List Tk) (h : ∀ t, ts.head? = some t → t.first = true) : ∀ g ∈ linesF ts, lineOk g :=
  linesF_ok_from ts [] (fun g hg => by cases hg) (fun _ => h)

/-- How many tokens stand ahead of line j. -/
def aheadN (gs : List (List Tk)) (j : Nat) : Nat := (gs.take j).flatten.length
theorem aheadN_zero (gs : List (List Tk)) : aheadN gs 0 = 0 := rfl
theorem aheadN_succ (gs : List (List Tk)) (j : Nat) (g : List Tk) (h : gs[j]? = some g) : aheadN gs (j + 1) = aheadN gs j + g.length := by
  unfold aheadN; rw [List.take_add_one, h]; simp
theorem aheadN_all (gs : List (List Tk)) : aheadN gs gs.length = gs.flatten.length := by unfold aheadN; rw [List.take_length]
theorem line_at (gs : List (List Tk)) (j : Nat) (g : List Tk) (h : gs[j]? = some g) : (gs.flatten.drop (aheadN gs j)).take g.length = g ∧ aheadN gs j + g.length ≤ gs.flatten.length := by
  have hj := (List.getElem?_eq_some_iff.1 h).1
  have e : gs = gs.take j ++ g :: gs.drop (j + 1) := by
    have h1 := (List.take_append_drop j gs).symm
    rw [List.drop_eq_getElem_cons hj, (List.getElem?_eq_some_iff.1 h).2] at h1
    exact h1
  have e2 : gs.flatten = (gs.take j).flatten ++ (g ++ (gs.drop (j + 1)).flatten) := by
    conv => lhs; rw [e]
    simp
  rw [e2]
  unfold aheadN
  refine ⟨by rw [List.drop_left, List.take_left], by simp⟩

theorem pcsF_head (s : List UInt8) : ∀ (f i : Nat) (acc A : List Pc), pcsF s f i acc = .inr A → (acc = [] → i = 0) → (∀ p, acc.head? = some p → p.first = true) → ∀ p, A.head? = some p → p.first = true
  | 0, _, acc, A, h, _, h2 => by unfold pcsF at h; injection h with h; subst h; exact h2
  | f + 1, i, acc, A, h, h1, h2 => by
    rw [pcsF_next] at h
    split at h
    · cases h
    · rename_i n1
      split at h
      · injection h with h; subst h; exact h2
      · rename_i n0
        refine pcsF_head s f _ _ A h (fun e => by simp at e) ?_
        intro p hp
        cases acc with
        | cons x r => exact h2 p (by simpa using hp)
        | nil =>
          have h1 := h1 rfl
          subst h1
          have hp : nextPc s 0 (behind s []) = p := by simpa using hp
          rw [← hp]
          unfold nextPc at n1 n0 ⊢
          have hf := (skip_flags s 0 false true).1
          rw [show ((0 : Nat) == 0) = true from rfl] at n1 n0 ⊢
          generalize skip s 0 false true = g at n1 n0 hf ⊢
          obtain ⟨z, sp, fi, la⟩ := g
          dsimp only at n1 n0 hf ⊢
          cases la with
          | true => simp at n1
          | false =>
            simp only [Bool.false_eq_true, if_false] at n1 n0 ⊢
            by_cases hl : s.length ≤ z
            · simp only [if_pos hl] at n0; exact absurd (by first | rfl | trivial) n0
            · simp only [if_neg hl]; simpa using hf
theorem toks_head (file : Int) (l : List UInt8) : ∀ t, (toksF file l).1.head? = some t → t.first = true := by
  unfold toksF
  split
  · intro t h; cases h
  · cases hp : pcs (bytesAt l (kept l)) with
    | inl k => intro t h; cases h
    | inr ps =>
      intro t h
      have hh := pcsF_head _ _ 0 [] ps hp (fun _ => rfl) (fun p h => by cases h)
      cases ps with
      | nil => cases h
      | cons x r =>
        have : tkOf file l x = t := by simpa [tksOf] using h
        rw [← this]
        exact hh x rfl
end Go.Proofs.YtoedgcpfomgagaaDoor
