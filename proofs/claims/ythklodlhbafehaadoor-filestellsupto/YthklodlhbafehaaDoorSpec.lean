/- What Change comes to, in plain words: files with their edits done, or what is wrong. -/
import Derived.Test.YthklodlhbafehaaDoorMine
namespace Go.Proofs.YthklodlhbafehaaDoor
open Go.RowKit Go.Shelf

/-- Files from number k on, with their edits done; nothing, if one is too long. -/
def changeGo (k : Nat) : List Src → List Ed → Option (List Src)
  | [], _ => some []
  | x :: r, es => if fitsB x.2 (mine k es) then (changeGo (k + 1) r (others k es)).map ((x.1, doneB x.2 (mine k es)) :: ·) else none

def changeF (fs : List Src) (es : List Ed) : List Src × Int :=
  if (wrongF fs).1 ≠ 0 then ([], (wrongF fs).1)
  else if misfitFrom fs none (sortE es) ≠ 0 then ([], misfitFrom fs none (sortE es))
  else match changeGo 0 fs (sortE es) with
    | none => ([], 4)
    | some out => (out, 0)

theorem misfit_cons {fs : List Src} {prev : Option Ed} {e : Ed} {r : List Ed} (h : misfitFrom fs prev (e :: r) = 0) :
    (0 ≤ e.file ∧ e.file < fs.length) ∧ (0 ≤ e.lo ∧ e.lo ≤ e.hi ∧ e.hi ≤ (textOf fs e.file).size) ∧ (∀ p, prev = some p → clashB p e = false) ∧ misfitFrom fs (some e) r = 0 := by
  unfold misfitFrom at h
  by_cases h1 : e.file < 0 ∨ (fs.length : Int) ≤ e.file
  · rw [if_pos h1] at h; cases h
  · rw [if_neg h1] at h
    by_cases h2 : e.lo < 0 ∨ e.hi < e.lo ∨ ((textOf fs e.file).size : Int) < e.hi
    · rw [if_pos h2] at h; cases h
    · rw [if_neg h2] at h
      cases prev with
      | none => exact ⟨by omega, by omega, fun p hp => (by cases hp), by simpa using h⟩
      | some p =>
        cases hc : clashB p e with
        | true => rw [if_pos hc] at h; cases h
        | false => rw [if_neg (by simp [hc])] at h; exact ⟨by omega, by omega, fun q hq => (by cases hq; exact hc), h⟩

/-- Of edits that fit, those of file k are a chain; and the others fit. -/
theorem fit_mine (fs : List Src) (k : Int) : ∀ (es : List Ed) (prev : Option Ed) (j : Int), misfitFrom fs prev es = 0 → j ≤ (textOf fs k).size →
    (∀ p, prev = some p → p.file = k → j ≤ p.hi) → (j ≤ 0 ∨ ∃ p, prev = some p ∧ p.file = k ∧ p.hi = j) → Chain (textOf fs k).size j (mine k es)
  | [], _, _, _, hj, _, _ => hj
  | e :: r, prev, j, h, hj, hp, hj0 => by
    unfold mine
    rw [List.takeWhile_cons]
    by_cases hf : e.file = k
    · have hof : ofFile k e = true := by simp [ofFile, hf]
      rw [hof]
      simp only [if_true]
      obtain ⟨h1, h2, h3, h4⟩ := misfit_cons h
      rw [hf] at h2
      have hlo : j ≤ e.lo := by
        rcases hj0 with h0 | ⟨p, hpe, hpf, hph⟩
        · omega
        · have h5 := h3 p hpe
          simp only [clashB, hpf, hf, beq_self_eq_true, Bool.true_and, Bool.or_eq_false_iff, decide_eq_false_iff_not] at h5
          omega
      exact ⟨hlo, by omega, by omega, fit_mine fs k r (some e) e.hi h4 (by omega) (fun p hp' _ => by cases hp'; exact Int.le_refl _) (.inr ⟨e, rfl, hf, rfl⟩)⟩
    · have hof : ofFile k e = false := by simp [ofFile, hf]
      rw [hof]
      exact hj

theorem fit_others (fs : List Src) (k : Int) : ∀ (es : List Ed) (prev : Option Ed), misfitFrom fs prev es = 0 → (∀ p, prev = some p → p.file ≤ k) →
    ∃ prev', misfitFrom fs prev' (others k es) = 0 ∧ ∀ p, prev' = some p → p.file ≤ k
  | [], prev, _, hp => ⟨prev, rfl, hp⟩
  | e :: r, prev, h, hp => by
    unfold others
    rw [List.dropWhile_cons]
    by_cases hf : e.file = k
    · have hof : ofFile k e = true := by simp [ofFile, hf]
      rw [hof]
      simp only [if_true]
      have h' := (misfit_cons h).2.2.2
      exact fit_others fs k r (some e) h' (fun p hp' => by cases hp'; omega)
    · have hof : ofFile k e = false := by simp [ofFile, hf]
      rw [hof]
      exact ⟨prev, h, hp⟩

theorem total_mine (k : Int) (es : List Ed) : total (mine k es) ≤ total es ∧ total (others k es) ≤ total es := by
  have h := mine_others k es
  have : total (mine k es ++ others k es) = total es := by rw [h]
  rw [total_append] at this
  omega

/-- The cells of files, one behind the other. -/
def cellsF (fs : List Src) : List Value := fs.flatMap encS
theorem cellsF_length (fs : List Src) : (cellsF fs).length = fs.length * 2 := by
  induction fs with
  | nil => rfl
  | cons x r ih => simp only [cellsF, List.flatMap_cons, List.length_append] at ih ⊢; rw [ih]; simp [encS]; omega
theorem cellsF_get (fs : List Src) (j : Nat) (x : Src) (h : fs[j]? = some x) : (cellsF fs)[j * 2]? = some (.string x.1) ∧ (cellsF fs)[j * 2 + 1]? = some (.string x.2) := by
  induction fs generalizing j with
  | nil => simp at h
  | cons y r ih =>
    cases j with
    | zero => simp at h; subst h; simp [cellsF, encS]
    | succ j =>
      have := ih j (by simpa using h)
      simp only [cellsF, List.flatMap_cons] at this ⊢
      rw [List.getElem?_append_right (by simp [encS]; omega), List.getElem?_append_right (by simp [encS]; omega)]
      have e1 : (j + 1) * 2 - (encS y).length = j * 2 := by simp [encS]; omega
      have e2 : (j + 1) * 2 + 1 - (encS y).length = j * 2 + 1 := by simp [encS]; omega
      rw [e1, e2]
      exact this
theorem cellsF_snoc (fs : List Src) (x : Src) : cellsF (fs ++ [x]) = cellsF fs ++ encS x := by simp [cellsF]

/-- A row of sources that a call owns is files. -/
theorem FAt.of_row {w : World} {base : Nat} {v : Value} {fs : List Src} (h : w.ownsRow base 33 2 v fs.length (cellsF fs)) : ∃ a c, v = .slice a fs.length c ∧ FAt w a fs := by
  rcases h.2 with ⟨rfl, h0⟩ | ⟨g, cap, cur, rfl, hb, hg, hn, hc, hs, ht⟩
  · exact ⟨none, 0, by rw [h0], .inl (List.eq_nil_of_length_eq_zero h0)⟩
  · refine ⟨_, _, rfl, .inr ⟨g, 0, rfl, (Array.getElem?_eq_some_iff.1 hg).1, fun j x hx => ?_⟩⟩
    have hj : j < fs.length := (List.getElem?_eq_some_iff.1 hx).1
    obtain ⟨h1, h2⟩ := cellsF_get fs j x hx
    rw [← ht, List.getElem?_take_of_lt (by omega), Array.getElem?_toList] at h1 h2
    rw [Go.Joins.cell_of_block hg, Go.Joins.cell_of_block hg]
    rw [Nat.zero_add]
    exact ⟨h1, h2⟩

theorem info_source : (Tryd.prog.info? 33).map (fun i => (i.zero, i.size, i.bytes)) = some (some (.agg #[.string ByteArray.empty, .string ByteArray.empty]), 2, 32) := by kernel_rfl

end Go.Proofs.YthklodlhbafehaaDoor
