/- Plain facts for the document's own Change: files with their own edits out of the whole list, built from the left. -/
import Derived.Test.YthklodlhbafehaaDoorDoneFacts
namespace Go.Proofs.YthklodlhbafehaaDoor
open Go.RowKit

theorem ofs_cons (k : Int) (e : Ed) (r : List Ed) : ofs k (e :: r) = if e.file = k then e :: ofs k r else ofs k r := by
  unfold ofs
  rw [List.filter_cons]
  by_cases h : e.file = k
  · simp [ofFile, h]
  · simp [ofFile, h]
theorem ofs_snoc (k : Int) (l : List Ed) (e : Ed) : ofs k (l ++ [e]) = if e.file = k then ofs k l ++ [e] else ofs k l := by
  unfold ofs
  rw [List.filter_append]
  by_cases h : e.file = k
  · simp [ofFile, h]
  · simp [ofFile, h]
theorem ofs_split (k : Int) (s : List Ed) (j : Nat) (e : Ed) (h : s[j]? = some e) (hf : e.file = k) : ofs k s = ofs k (s.take j) ++ e :: ofs k (s.drop (j + 1)) := by
  have hlt := (List.getElem?_eq_some_iff.1 h).1
  have h1 : s = s.take j ++ e :: s.drop (j + 1) := by
    rw [List.getElem?_eq_getElem hlt] at h
    cases h
    rw [← List.drop_eq_getElem_cons hlt, List.take_append_drop]
  conv => lhs; rw [h1]
  unfold ofs
  rw [List.filter_append, List.filter_cons]
  simp [ofFile, hf]

/-- Of edits that fit, those of file k are a chain. -/
theorem fit_ofs (fs : List Src) (k : Int) : ∀ (es : List Ed) (prev : Option Ed) (j : Int), misfitFrom fs prev es = 0 → rising es → (∀ p, prev = some p → ∀ x ∈ es, p.file ≤ x.file) → j ≤ (textOf fs k).size →
    (j ≤ 0 ∨ ∃ p, prev = some p ∧ p.file = k ∧ p.hi = j) → Chain (textOf fs k).size j (ofs k es)
  | [], _, _, _, _, _, hj, _ => hj
  | e :: r, prev, j, h, hs, hp, hj, hj0 => by
    obtain ⟨s1, s2⟩ := List.pairwise_cons.1 hs
    obtain ⟨h1, h2, h3, h4⟩ := misfit_cons h
    rw [ofs_cons]
    by_cases hf : e.file = k
    · rw [if_pos hf]
      rw [hf] at h2
      have hlo : j ≤ e.lo := by
        rcases hj0 with h0 | ⟨p, hpe, hpf, hph⟩
        · omega
        · have h5 := h3 p hpe
          simp only [clashB, hpf, hf, beq_self_eq_true, Bool.true_and, Bool.or_eq_false_iff, decide_eq_false_iff_not] at h5
          omega
      exact ⟨hlo, by omega, by omega, fit_ofs fs k r (some e) e.hi h4 s2 (fun p hp' x hx => by cases hp'; exact s1 x hx) (by omega) (.inr ⟨e, rfl, hf, rfl⟩)⟩
    · rw [if_neg hf]
      by_cases h0 : j ≤ 0
      · exact fit_ofs fs k r (some e) j h4 s2 (fun p hp' x hx => by cases hp'; exact s1 x hx) hj (.inl h0)
      · rcases hj0 with h0' | ⟨p, hpe, hpf, hph⟩
        · exact absurd h0' h0
        · have hge := hp p hpe e (by simp)
          have : ofs k r = [] := by
            unfold ofs
            rw [List.filter_eq_nil_iff]
            intro x hx
            have := s1 x hx
            simp [ofFile]; omega
          rw [this]; exact hj

/-- Files from number k on, each with its own edits done. -/
def outsL (s : List Ed) (k : Nat) : List Src → List Src
  | [] => []
  | x :: r => (x.1, ⟨(spliceL x.2.data.toList 0 (ofs k s)).toArray⟩) :: outsL s (k + 1) r
def muchL (s : List Ed) (k : Nat) : List Src → Bool
  | [] => false
  | x :: r => muchB x.2 (ofs k s) || muchL s (k + 1) r

theorem outsL_snoc (s : List Ed) : ∀ (l : List Src) (k : Nat) (x : Src), outsL s k (l ++ [x]) = outsL s k l ++ [(x.1, ⟨(spliceL x.2.data.toList 0 (ofs ((k + l.length : Nat) : Int) s)).toArray⟩)]
  | [], k, x => by simp [outsL]
  | y :: l, k, x => by
    have := outsL_snoc s l (k + 1) x
    simp only [List.cons_append, outsL, this, List.length_cons]
    rw [show k + 1 + l.length = k + (l.length + 1) by omega]
theorem muchL_snoc (s : List Ed) : ∀ (l : List Src) (k : Nat) (x : Src), muchL s k (l ++ [x]) = (muchL s k l || muchB x.2 (ofs ((k + l.length : Nat) : Int) s))
  | [], k, x => by simp [muchL]
  | y :: l, k, x => by
    have := muchL_snoc s l (k + 1) x
    simp only [List.cons_append, muchL, this, List.length_cons, Bool.or_assoc]
    rw [show k + 1 + l.length = k + (l.length + 1) by omega]
theorem outsL_length (s : List Ed) : ∀ (l : List Src) (k : Nat), (outsL s k l).length = l.length
  | [], _ => rfl
  | _ :: l, k => by simp [outsL, outsL_length s l (k + 1)]

theorem goF_outs (s : List Ed) : ∀ (fs : List Src) (k : Nat), (∀ j x, fs[j]? = some x → Chain x.2.size 0 (ofs ((k + j : Nat) : Int) s)) → goF s k fs = if muchL s k fs then none else some (outsL s k fs)
  | [], _, _ => rfl
  | x :: r, k, h => by
    have h0 := h 0 x rfl
    have ih := goF_outs s r (k + 1) (fun j y hy => by have := h (j + 1) y (by simpa using hy); rwa [show k + (j + 1) = k + 1 + j by omega] at this)
    have hm := much_fits x.2 (ofs ((k + 0 : Nat) : Int) s) h0
    rw [Nat.add_zero] at hm
    unfold goF muchL outsL
    rw [hm]
    cases hf : fitsB x.2 (ofs (k : Int) s) with
    | false => simp
    | true =>
      rw [ih]
      have hd : doneB x.2 (ofs (k : Int) s) = ⟨(spliceL x.2.data.toList 0 (ofs (k : Int) s)).toArray⟩ := by unfold doneB; rw [hf]; rfl
      simp only [if_true, Bool.not_true, Bool.false_or, hd]
      split <;> simp

/-- What Change comes to, where nothing is wrong. -/
theorem change_outs (fs : List Src) (es : List Ed) (hw : (wrongF fs).1 = 0) (hf : misfitFrom fs none (sortI es) = 0) :
    changeF fs es = if muchL (sortI es) 0 fs then ([], 4) else (outsL (sortI es) 0 fs, 0) := by
  have hf2 : misfitFrom fs none (sortE es) = 0 := by rw [← sortI_misfit]; exact hf
  have hs := sortI_same fs es hf2
  have hord := sortI_sorted es
  have hpos : ∀ (l : List Ed) (p : Option Ed), misfitFrom fs p l = 0 → ∀ e ∈ l, 0 ≤ e.file := by
    intro l
    induction l with
    | nil => intro _ _ e he; cases he
    | cons x r ih =>
      intro p h e he
      obtain ⟨h1, _, _, h4⟩ := misfit_cons h
      rcases List.mem_cons.1 he with rfl | he
      · exact h1.1
      · exact ih _ h4 e he
  have hg := go_whole fs (sortI es) hord (hpos _ _ hf)
  have hc := goF_outs (sortI es) fs 0 (fun j x hx => by
    have := fit_ofs fs (j : Int) (sortI es) none 0 hf (rising_of hord) (fun p hp => by cases hp) (by omega) (.inl (Int.le_refl _))
    have ht : textOf fs (j : Int) = x.2 := by simp [textOf, hx]
    rw [ht] at this
    rwa [Nat.zero_add])
  unfold changeF
  rw [if_neg (by simp [hw]), if_neg (by simp [hf2]), ← hs, hg, hc]
  cases muchL (sortI es) 0 fs <;> rfl

theorem builtL_le (T : ByteArray) (es : List Ed) (h : Chain T.size 0 es) : (builtL T.data.toList 0 es).length ≤ T.size + total es := by
  have h1 := builtL_length T (k := 0) h
  have h2 := h.gain_le
  have h3 := h.end
  simp only [Int.cast_ofNat_Int] at h1
  omega
theorem total_ofs (k : Int) : ∀ (s : List Ed), total (ofs k s) ≤ total s
  | [] => by simp [ofs]
  | e :: r => by
    have := total_ofs k r
    rw [ofs_cons]
    split
    · simp only [total, List.map_cons, List.sum_cons] at this ⊢; omega
    · simp only [total, List.map_cons, List.sum_cons] at this ⊢; omega
theorem total_perm {a b : List Ed} (h : a.Perm b) : total a = total b := (h.map _).sum_nat

theorem change_bad {fs : List Src} {es : List Ed} {m : Int} (hw : (wrongF fs).1 = 0) (h : misfitFrom fs none (sortI es) = m) (hm : m ≠ 0) : changeF fs es = ([], m) := by
  rw [sortI_misfit] at h
  simp [changeF, hw, h, hm]
theorem sortI_length (es : List Ed) : (sortI es).length = es.length := (sortI_perm es).length_eq
/-- One file more. -/
theorem outs_next (S : List Ed) (fs : List Src) (k : Nat) (x : Src) (h : fs[k]? = some x) : outsL S 0 (fs.take (k + 1)) = outsL S 0 (fs.take k) ++ [(x.1, ⟨(spliceL x.2.data.toList 0 (ofs (k : Int) S)).toArray⟩)] := by
  have hlt := (List.getElem?_eq_some_iff.1 h).1
  rw [List.take_add_one, h]
  have := outsL_snoc S (fs.take k) 0 x
  rw [List.length_take, Nat.min_eq_left (by omega), Nat.zero_add] at this
  exact this
theorem much_next (S : List Ed) (fs : List Src) (k : Nat) (x : Src) (h : fs[k]? = some x) : muchL S 0 (fs.take (k + 1)) = (muchL S 0 (fs.take k) || muchB x.2 (ofs (k : Int) S)) := by
  have hlt := (List.getElem?_eq_some_iff.1 h).1
  rw [List.take_add_one, h]
  have := muchL_snoc S (fs.take k) 0 x
  rw [List.length_take, Nat.min_eq_left (by omega), Nat.zero_add] at this
  exact this
/-- An edit's text too long, so far. -/
def bigE (l : List Ed) : Bool := l.any (fun e => decide (3000 < e.text.size))
theorem bigE_snoc (l : List Ed) (e : Ed) : bigE (l ++ [e]) = (bigE l || decide (3000 < e.text.size)) := by simp [bigE]
theorem ofs_take_in (k : Int) (S : List Ed) (j : Nat) (e : Ed) (h : S[j]? = some e) (hf : e.file = k) : ofs k (S.take (j + 1)) = ofs k (S.take j) ++ [e] := by
  rw [List.take_add_one, h, Option.toList_some, ofs_snoc, if_pos hf]
theorem ofs_take_out (k : Int) (S : List Ed) (j : Nat) (e : Ed) (h : S[j]? = some e) (hf : e.file ≠ k) : ofs k (S.take (j + 1)) = ofs k (S.take j) := by
  rw [List.take_add_one, h, Option.toList_some, ofs_snoc, if_neg hf]

end Go.Proofs.YthklodlhbafehaaDoor
