/- Plain facts: edits in order come out the same whichever order they came in, if they fit; no edits change nothing. -/
import Derived.Test.YthklodlhbafehaaDoorBackFacts
namespace Go.Proofs.YthklodlhbafehaaDoor
open Go.RowKit

theorem sortE_sorted (es : List Ed) : (sortE es).Pairwise (fun x y => ¬ ltE y x) := by
  unfold sortE
  split
  · exact List.Pairwise.nil
  · obtain ⟨h1, h2⟩ := pdq_facts es
    have hs := h1.1
    generalize Sort.pdq (ltOf cmpE) es.toArray 0 es.toArray.size (Lib.bitLen es.toArray.size) true true = d at h2 hs
    rw [List.pairwise_iff_getElem]
    intro i j hi hj hij
    have hi' : i < d.size := by simpa using hi
    have hj' : j < d.size := by simpa using hj
    have h3 := h2 i j (Nat.zero_le _) hij (by rw [← hs]; exact hj')
    rw [ltOf_cmpE_false, getElem!_pos d j hj', getElem!_pos d i hi'] at h3
    simpa using h3

def keyLt (x y : Ed) : Prop := x.file < y.file ∨ (x.file = y.file ∧ x.lo < y.lo)

theorem fit_keys (fs : List Src) : ∀ (es : List Ed) (prev : Option Ed), misfitFrom fs prev es = 0 → es.Pairwise (fun x y => ¬ ltE y x) → es.Pairwise keyLt
  | [], _, _, _ => List.Pairwise.nil
  | [x], _, _, _ => by simp
  | x :: y :: r, prev, h, hs => by
    obtain ⟨_, _, _, h4⟩ := misfit_cons h
    obtain ⟨_, _, h5, _⟩ := misfit_cons h4
    have ih := fit_keys fs (y :: r) (some x) h4 (List.pairwise_cons.1 hs).2
    have hxy : ¬ ltE y x := (List.pairwise_cons.1 hs).1 y (by simp)
    have hc := h5 x rfl
    have hk : keyLt x y := by
      unfold ltE at hxy
      unfold keyLt
      simp only [clashB, Bool.and_eq_false_iff, Bool.or_eq_false_iff, decide_eq_false_iff_not, beq_eq_false_iff_ne] at hc
      omega
    refine List.pairwise_cons.2 ⟨fun z hz => ?_, ih⟩
    rcases List.mem_cons.1 hz with rfl | hz
    · exact hk
    · have hyz := (List.pairwise_cons.1 ih).1 z hz
      unfold keyLt at *
      omega

theorem keys_apart : ∀ (l : List Ed), l.Pairwise keyLt → ∀ a ∈ l, ∀ b ∈ l, a = b ∨ keyLt a b ∨ keyLt b a
  | [], _, a, ha, _, _ => by cases ha
  | x :: r, h, a, ha, b, hb => by
    obtain ⟨h1, h2⟩ := List.pairwise_cons.1 h
    rcases List.mem_cons.1 ha with ea | ha'
    · rcases List.mem_cons.1 hb with eb | hb'
      · exact .inl (ea.trans eb.symm)
      · exact .inr (.inl (ea ▸ h1 b hb'))
    · rcases List.mem_cons.1 hb with eb | hb'
      · exact .inr (.inr (eb ▸ h1 a ha'))
      · exact keys_apart r h2 a ha' b hb'

/-- Edits that fit come out in one order alone. -/
theorem sort_unique (fs : List Src) (es es' : List Ed) (hp : es.Perm es') (h : misfitFrom fs none (sortE es) = 0) : sortE es = sortE es' := by
  have hs := sortE_sorted es
  have hk := keys_apart _ (fit_keys fs _ none h hs)
  have hpp : (sortE es).Perm (sortE es') := ((sortE_perm es).trans hp).trans (sortE_perm es').symm
  refine hpp.eq_of_pairwise (le := fun x y => ¬ ltE y x) (fun a b ha hb h1 h2 => ?_) hs (sortE_sorted es')
  rcases hk a ha b (hpp.symm.subset hb) with h | h | h
  · exact h
  · unfold keyLt at h; unfold ltE at h1 h2; omega
  · unfold keyLt at h; unfold ltE at h1 h2; omega

theorem change_turned (fs : List Src) (es es' : List Ed) (hp : es.Perm es') : (changeF fs es).1 = (changeF fs es').1 ∧ ((changeF fs es).2 = 0 ↔ (changeF fs es').2 = 0) := by
  by_cases h : misfitFrom fs none (sortE es) = 0
  · have := sort_unique fs es es' hp h
    unfold changeF
    rw [this]
    exact ⟨rfl, Iff.rfl⟩
  · by_cases h' : misfitFrom fs none (sortE es') = 0
    · have := sort_unique fs es' es hp.symm h'
      rw [this] at h'
      exact absurd h' h
    · by_cases hw : (wrongF fs).1 = 0
      · have e1 : changeF fs es = ([], misfitFrom fs none (sortE es)) := by unfold changeF; rw [if_neg (by rw [hw]; simp), if_pos h]
        have e2 : changeF fs es' = ([], misfitFrom fs none (sortE es')) := by unfold changeF; rw [if_neg (by rw [hw]; simp), if_pos h']
        rw [e1, e2]
        exact ⟨rfl, fun e => absurd e h, fun e => absurd e h'⟩
      · have e1 : changeF fs es = ([], (wrongF fs).1) := by unfold changeF; rw [if_pos hw]
        have e2 : changeF fs es' = ([], (wrongF fs).1) := by unfold changeF; rw [if_pos hw]
        rw [e1, e2]
        exact ⟨rfl, Iff.rfl⟩

theorem sortE_nil : sortE [] = [] := by unfold sortE; rw [if_pos rfl]
theorem change_none (fs : List Src) : (changeF fs []).2 = (wrongF fs).1 ∧ ((wrongF fs).1 = 0 → (changeF fs []).1 = fs) := by
  by_cases hw : (wrongF fs).1 = 0
  · have htx := wrongFrom_texts _ _ _ (wrongF_from hw).2
    have e : changeF fs [] = (fs, 0) := by
      unfold changeF
      rw [if_neg (by rw [hw]; simp), sortE_nil, go_none 0 fs (fun x hx => (htx x hx).2), if_neg (by simp [misfitFrom])]
    rw [e]
    exact ⟨hw.symm, fun _ => rfl⟩
  · have e1 : changeF fs [] = ([], (wrongF fs).1) := by unfold changeF; rw [if_pos hw]
    rw [e1]
    exact ⟨rfl, fun h => absurd h hw⟩

/-- The cells of edits, one behind the other. -/
def cellsE (es : List Ed) : List Value := es.flatMap encE
theorem cellsE_get (es : List Ed) (j i : Nat) (x : Ed) (v : Value) (h : es[j]? = some x) (hv : (encE x)[i]? = some v) : (cellsE es)[j * 4 + i]? = some v := by
  have hi : i < 4 := by have := (List.getElem?_eq_some_iff.1 hv).1; simpa [encE] using this
  induction es generalizing j with
  | nil => simp at h
  | cons y r ih =>
    cases j with
    | zero =>
      simp at h; subst h
      simp only [cellsE, List.flatMap_cons]
      rw [List.getElem?_append_left (by simp [encE]; omega)]
      simpa using hv
    | succ j =>
      have := ih j (by simpa using h)
      simp only [cellsE, List.flatMap_cons] at this ⊢
      rw [List.getElem?_append_right (by simp [encE]; omega)]
      have e1 : (j + 1) * 4 + i - (encE y).length = j * 4 + i := by simp [encE]; omega
      rw [e1]
      exact this
theorem cellsE_snoc (es : List Ed) (x : Ed) : cellsE (es ++ [x]) = cellsE es ++ encE x := by simp [cellsE]

/-- A row of edits that a call owns is edits. -/
theorem EAt.of_row {w : World} {base : Nat} {v : Value} {es : List Ed} (h : w.ownsRow base 41 4 v es.length (cellsE es)) : ∃ a c, v = .slice a es.length c ∧ EAt w a es := by
  rcases h.2 with ⟨rfl, h0⟩ | ⟨g, cap, cur, rfl, hb, hg, hn, hc, hs, ht⟩
  · exact ⟨none, 0, by rw [h0], .inl (List.eq_nil_of_length_eq_zero h0)⟩
  · refine ⟨_, _, rfl, .inr ⟨g, 0, rfl, (Array.getElem?_eq_some_iff.1 hg).1, fun j x hx i v hv => ?_⟩⟩
    have hj : j < es.length := (List.getElem?_eq_some_iff.1 hx).1
    have hi : i < 4 := by have := (List.getElem?_eq_some_iff.1 hv).1; simpa [encE] using this
    have h1 := cellsE_get es j i x v hx hv
    rw [← ht, List.getElem?_take_of_lt (by omega), Array.getElem?_toList] at h1
    rw [Go.Joins.cell_of_block hg, Nat.zero_add]
    exact h1

theorem total_reverse (es : List Ed) : total es.reverse = total es := by
  unfold total; exact ((List.reverse_perm es).map _).sum_nat
theorem four_new (w : World) (f lo hi : Int) (U : ByteArray) (T : TypeId) : ∀ j x, (encE (f, lo, hi, U))[j]? = some x → (w.alloc (.cells #[.int .i64 f, .int .i64 lo, .int .i64 hi, .string U] T)).cell? ((⟨w.heap.size, 0, none⟩ : Addr).add j) = some x := by
  intro j x hx
  rw [Addr.add_lit, Nat.zero_add, World.cell?_alloc_mark]
  match j, hx with
  | 0, hx => simpa [encE] using hx
  | 1, hx => simpa [encE] using hx
  | 2, hx => simpa [encE] using hx
  | 3, hx => simpa [encE] using hx
  | j + 4, hx => simp [encE] at hx
theorem four_one (x : Ed) : ∀ u ∈ encE x, u.oneCell' = true := by
  intro u hu
  simp [encE] at hu
  rcases hu with rfl | rfl | rfl | rfl <;> rfl

end Go.Proofs.YthklodlhbafehaaDoor
