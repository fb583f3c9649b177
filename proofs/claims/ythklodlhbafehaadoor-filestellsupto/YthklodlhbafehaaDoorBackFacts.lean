/- Plain facts of an edit and of the one that puts back what was there. -/
import Derived.Test.YthklodlhbafehaaDoorFacts
namespace Go.Proofs.YthklodlhbafehaaDoor
open Go.RowKit

theorem fits_none (T : ByteArray) : fitsB T [] = decide (T.size ≤ 3000) := by
  unfold fitsB sizeAfter gain
  have : ((T.size : Int) + ([] : List Int).sum ≤ 3000) ↔ T.size ≤ 3000 := by simp; omega
  simp only [List.map_nil, this]
theorem done_none (T : ByteArray) (h : T.size ≤ 3000) : doneB T [] = T := by
  unfold doneB
  rw [fits_none]
  simp [h, spliceL]

theorem others_nil (k : Int) : others k [] = [] := rfl
theorem mine_nil (k : Int) : mine k [] = [] := rfl

theorem go_none (k : Nat) : ∀ (fs : List Src), (∀ x ∈ fs, x.2.size ≤ 3000) → changeGo k fs [] = some fs := by
  intro fs
  induction fs generalizing k with
  | nil => intro _; rfl
  | cons x r ih =>
    intro h
    have hx := h x (by simp)
    rw [changeGo_cons, mine_nil, others_nil, fits_none, done_none _ hx, ih (k + 1) (fun y hy => h y (by simp [hy]))]
    simp [hx]

theorem go_one (x : Ed) (s : Src) (q : List Src) (hq : ∀ y ∈ q, y.2.size ≤ 3000) : ∀ (p : List Src) (k : Nat), (∀ y ∈ p, y.2.size ≤ 3000) → x.file = ((k + p.length : Nat) : Int) →
    changeGo k (p ++ s :: q) [x] = if fitsB s.2 [x] then some (p ++ (s.1, doneB s.2 [x]) :: q) else none := by
  intro p
  induction p with
  | nil =>
    intro k _ hf
    have hm : mine k [x] = [x] := by simp [mine, ofFile, hf]
    have ho : others k [x] = [] := by simp [others, ofFile, hf]
    rw [List.nil_append, changeGo_cons, hm, ho, go_none _ _ hq]
    rfl
  | cons z p ih =>
    intro k hp hf
    have hz := hp z (by simp)
    have hne : ofFile (k : Int) x = false := by simp [ofFile, hf]; omega
    have hm : mine k [x] = [] := by simp [mine, hne]
    have ho : others k [x] = [x] := by simp [others, hne]
    rw [List.cons_append, changeGo_cons, hm, ho, fits_none, done_none _ hz, ih (k + 1) (fun y hy => hp y (by simp [hy])) (by rw [hf]; simp; omega)]
    simp only [hz, decide_true, if_true]
    split <;> rfl

def rises (prev : Option ByteArray) (s : ByteArray) : Prop := ∀ p, prev = some p → Op.bytesLess p.toList s.toList = true
theorem wrong_cons (prev : Option ByteArray) (i : Nat) (y : Src) (r : List Src) : (wrongFrom prev i (y :: r)).1 = 0 ↔ cleanB y.1 = true ∧ y.2.size ≤ 3000 ∧ rises prev y.1 ∧ (wrongFrom (some y.1) (i + 1) r).1 = 0 := by
  have e : wrongFrom prev i (y :: r) = if cleanB y.1 = false then (7, (i : Int)) else if 3000 < y.2.size then (4, (i : Int))
      else if (match prev with | some p => !(Op.bytesLess p.toList y.1.toList) | none => false) = true then (2, (i : Int)) else wrongFrom (some y.1) (i + 1) r := rfl
  rw [e]
  by_cases h1 : cleanB y.1 = false
  · rw [if_pos h1]
    exact ⟨fun h => (by cases h), fun h => by rw [h1] at h; cases h.1⟩
  rw [if_neg h1]
  have h1' : cleanB y.1 = true := by simpa using h1
  by_cases h2 : 3000 < y.2.size
  · rw [if_pos h2]
    exact ⟨fun h => (by cases h), fun h => by omega⟩
  rw [if_neg h2]
  cases prev with
  | none =>
    simp only [Bool.false_eq_true, if_false]
    exact ⟨fun h => ⟨h1', by omega, fun p hp => (by cases hp), h⟩, fun h => h.2.2.2⟩
  | some p =>
    cases hb : Op.bytesLess p.toList y.1.toList with
    | true =>
      simp only [hb, Bool.not_true, Bool.false_eq_true, if_false]
      exact ⟨fun h => ⟨h1', by omega, fun q hq => (by cases hq; exact hb), h⟩, fun h => h.2.2.2⟩
    | false =>
      simp only [hb, Bool.not_false, if_true]
      exact ⟨fun h => (by cases h), fun h => by have := h.2.2.1 p rfl; rw [hb] at this; cases this⟩

theorem wrongFrom_texts : ∀ (fs : List Src) (prev : Option ByteArray) (i : Nat), (wrongFrom prev i fs).1 = 0 → ∀ x ∈ fs, x.1.size ≤ 40 ∧ x.2.size ≤ 3000 := by
  intro fs
  induction fs with
  | nil => intro _ _ _ x hx; cases hx
  | cons y r ih =>
    intro prev i h x hx
    obtain ⟨h1, h2, _, h4⟩ := (wrong_cons prev i y r).1 h
    rcases List.mem_cons.1 hx with rfl | hx
    · refine ⟨?_, h2⟩
      unfold cleanB at h1; simp at h1; exact h1.1
    · exact ih _ _ h4 x hx

theorem wrongFrom_swap (s : Src) (t : ByteArray) (q : List Src) (ht : t.size ≤ 3000) : ∀ (p : List Src) (prev : Option ByteArray) (i : Nat), (wrongFrom prev i (p ++ s :: q)).1 = 0 → (wrongFrom prev i (p ++ (s.1, t) :: q)).1 = 0 := by
  intro p
  induction p with
  | nil =>
    intro prev i h
    obtain ⟨h1, h2, h3, h4⟩ := (wrong_cons prev i s q).1 h
    exact (wrong_cons prev i (s.1, t) q).2 ⟨h1, ht, h3, h4⟩
  | cons z p ih =>
    intro prev i h
    obtain ⟨h1, h2, h3, h4⟩ := (wrong_cons prev i z (p ++ s :: q)).1 h
    exact (wrong_cons prev i z (p ++ (s.1, t) :: q)).2 ⟨h1, h2, h3, ih _ _ h4⟩

theorem change_zero {fs : List Src} {es : List Ed} {m : List Src} {e : Int} (h : changeF fs es = (m, e)) (he : e ≠ 0) : m = [] := by
  unfold changeF at h
  split at h
  · cases h; rfl
  · split at h
    · cases h; rfl
    · split at h
      · cases h; rfl
      · cases h; exact absurd rfl he
theorem change_ok {fs : List Src} {es : List Ed} {m : List Src} (h : changeF fs es = (m, 0)) : (wrongF fs).1 = 0 ∧ misfitFrom fs none (sortE es) = 0 ∧ changeGo 0 fs (sortE es) = some m := by
  unfold changeF at h
  split at h
  · rename_i h1; injection h with _ h3; exact absurd h3 h1
  · rename_i h1
    split at h
    · rename_i h2; injection h with _ h3; exact absurd h3 h2
    · rename_i h2
      split at h
      · injection h with _ h3; cases h3
      · rename_i o ho; cases h; exact ⟨by simpa using h1, by simpa using h2, ho⟩
theorem wrongF_from {fs : List Src} (h : (wrongF fs).1 = 0) : fs.length ≤ 8 ∧ (wrongFrom none 0 fs).1 = 0 := by
  unfold wrongF at h
  split at h
  · cases h
  · exact ⟨by omega, h⟩
theorem wrongF_mk {fs : List Src} (h8 : fs.length ≤ 8) (h : (wrongFrom none 0 fs).1 = 0) : (wrongF fs).1 = 0 := by
  unfold wrongF
  rw [if_neg (by omega)]; exact h

/-- What is taken out, put back. -/
theorem done_back (T U : ByteArray) (f : Int) (lo hi : Nat) (h1 : lo ≤ hi) (h2 : hi ≤ T.size) (h3 : T.size ≤ 3000) (hf : fitsB T [(f, (lo : Int), (hi : Int), U)] = true) :
    (doneB T [(f, (lo : Int), (hi : Int), U)]).size = lo + U.size + (T.size - hi) ∧ fitsB (doneB T [(f, (lo : Int), (hi : Int), U)]) [(f, (lo : Int), ((lo + U.size : Nat) : Int), T.extract lo hi)] = true ∧
      doneB (doneB T [(f, (lo : Int), (hi : Int), U)]) [(f, (lo : Int), ((lo + U.size : Nat) : Int), T.extract lo hi)] = T := by
  have e1 : doneB T [(f, (lo : Int), (hi : Int), U)] = ⟨(T.data.toList.take lo ++ U.data.toList ++ T.data.toList.drop hi).toArray⟩ := by
    unfold doneB; rw [if_pos hf]; simp [spliceL, Ed.lo, Ed.hi, Ed.text]
  have hs : (doneB T [(f, (lo : Int), (hi : Int), U)]).size = lo + U.size + (T.size - hi) := by
    rw [e1]
    simp only [ByteArray.size, List.size_toArray, List.length_append, List.length_take, List.length_drop, Array.length_toList]
    have : T.data.size = T.size := rfl
    omega
  have hx : (T.extract lo hi).size = hi - lo := by simp [ByteArray.size_extract]; omega
  have hf2 : fitsB (doneB T [(f, (lo : Int), (hi : Int), U)]) [(f, (lo : Int), ((lo + U.size : Nat) : Int), T.extract lo hi)] = true := by
    unfold fitsB sizeAfter gain
    simp only [List.map_cons, List.map_nil, List.sum_cons, List.sum_nil, hs, hx, Ed.text, Ed.hi, Ed.lo]
    simp only [decide_eq_true_eq]
    push_cast
    omega
  refine ⟨hs, hf2, ?_⟩
  rw [doneB, if_pos hf2, e1]
  have hxl : (T.extract lo hi).data.toList = (T.data.toList.drop lo).take (hi - lo) := by
    simp [ByteArray.data_extract, Array.toList_extract, List.extract]
  simp only [spliceL, Ed.text, Ed.hi, Ed.lo, Int.toNat_natCast, List.drop_zero, hxl]
  have hl : (T.data.toList.take lo).length = lo := by rw [List.length_take, Array.length_toList]; have : T.data.size = T.size := rfl; omega
  have hul : U.data.toList.length = U.size := by rw [Array.length_toList]; rfl
  have g1 : (T.data.toList.take lo ++ U.data.toList ++ T.data.toList.drop hi).take lo = T.data.toList.take lo := by
    rw [List.append_assoc, List.take_append_of_le_length (by omega), List.take_of_length_le (by omega)]
  have g2 : (T.data.toList.take lo ++ U.data.toList ++ T.data.toList.drop hi).drop (lo + U.size) = T.data.toList.drop hi := by
    rw [List.drop_append_of_le_length (by rw [List.length_append]; omega), List.drop_of_length_le (by rw [List.length_append]; omega), List.nil_append]
  rw [g1, g2]
  have g3 : T.data.toList.take lo ++ (T.data.toList.drop lo).take (hi - lo) ++ T.data.toList.drop hi = T.data.toList := by
    have h4 : (T.data.toList.drop lo).take (hi - lo) ++ T.data.toList.drop hi = T.data.toList.drop lo := by
      have h5 := List.take_append_drop (hi - lo) (T.data.toList.drop lo)
      rw [List.drop_drop] at h5
      have h6 : lo + (hi - lo) = hi := by omega
      rw [h6] at h5
      exact h5
    rw [List.append_assoc, h4, List.take_append_drop]
  rw [g3]

theorem back_plain (fs : List Src) (f lo hi : Int) (U : ByteArray) (m : List Src) (h : changeF fs [(f, lo, hi, U)] = (m, 0)) :
    ∃ (i a b : Nat) (s : Src), f = i ∧ lo = a ∧ hi = b ∧ fs[i]? = some s ∧ a ≤ b ∧ b ≤ s.2.size ∧ s.2.size ≤ 3000 ∧ fs.length ≤ 8 ∧ m.length = fs.length ∧ U.size ≤ 3000 ∧ (∀ y ∈ m, y.1.size ≤ 40 ∧ y.2.size ≤ 3000) ∧
      changeF m [(f, lo, ((a + U.size : Nat) : Int), s.2.extract a b)] = (fs, 0) := by
  obtain ⟨hw, hmf, hgo⟩ := change_ok h
  rw [sortE_one] at hmf hgo
  obtain ⟨⟨hf0, hf1⟩, ⟨hl0, hl1, hl2⟩, _, _⟩ := misfit_cons hmf
  simp only [Ed.file, Ed.lo, Ed.hi] at hf0 hf1 hl0 hl1 hl2
  obtain ⟨i, rfl⟩ : ∃ i : Nat, f = i := ⟨f.toNat, by omega⟩
  obtain ⟨a, rfl⟩ : ∃ i : Nat, lo = i := ⟨lo.toNat, by omega⟩
  obtain ⟨b, rfl⟩ : ∃ i : Nat, hi = i := ⟨hi.toNat, by omega⟩
  have hi : i < fs.length := by omega
  obtain ⟨h8, hwf⟩ := wrongF_from hw
  have htx := wrongFrom_texts _ _ _ hwf
  have hsp : fs = fs.take i ++ fs[i] :: fs.drop (i + 1) := by rw [← List.drop_eq_getElem_cons hi, List.take_append_drop]
  have hpl : (fs.take i).length = i := by rw [List.length_take]; omega
  have hte : textOf fs (i : Int) = fs[i].2 := by simp [textOf, hi]
  rw [hte] at hl2
  have hz := (htx fs[i] (List.getElem_mem hi)).2
  have hg1 := go_one ((i : Int), (a : Int), (b : Int), U) fs[i] (fs.drop (i + 1)) (fun y hy => (htx y (List.mem_of_mem_drop hy)).2) (fs.take i) 0 (fun y hy => (htx y (List.mem_of_mem_take hy)).2) (by simp only [Ed.file]; omega)
  rw [← hsp, hgo] at hg1
  split at hg1
  · rename_i hft
    injection hg1 with hm
    obtain ⟨hs, hf2, hbk⟩ := done_back fs[i].2 U i a b (by omega) (by omega) hz hft
    have hfz : (doneB fs[i].2 [((i : Int), (a : Int), (b : Int), U)]).size ≤ 3000 := by
      have := hft
      unfold fitsB sizeAfter gain at this
      simp only [List.map_cons, List.map_nil, List.sum_cons, List.sum_nil, decide_eq_true_eq, Ed.text, Ed.hi, Ed.lo] at this
      omega
    have hml : m.length = fs.length := by rw [hm, List.length_append, List.length_cons, hpl, List.length_drop]; omega
    have hmi : m[i]? = some (fs[i].1, doneB fs[i].2 [((i : Int), (a : Int), (b : Int), U)]) := by
      rw [hm, List.getElem?_append_right (by omega), hpl]; simp
    have hwm : (wrongFrom none 0 m).1 = 0 := by
      rw [hm]
      rw [hsp] at hwf
      exact wrongFrom_swap fs[i] _ _ hfz _ _ _ hwf
    refine ⟨i, a, b, fs[i], rfl, rfl, rfl, List.getElem?_eq_getElem hi, by omega, by omega, hz, h8, hml, by omega, wrongFrom_texts _ _ _ hwm, ?_⟩
    have hmf2 : misfitFrom m none [((i : Int), (a : Int), ((a + U.size : Nat) : Int), fs[i].2.extract a b)] = 0 := by
      have ht2 : textOf m (i : Int) = doneB fs[i].2 [((i : Int), (a : Int), (b : Int), U)] := by simp [textOf, hmi]
      unfold misfitFrom
      simp only [Ed.file, Ed.lo, Ed.hi]
      rw [if_neg (by omega), ht2, if_neg (by omega)]
      simp [misfitFrom]
    have hg2 := go_one ((i : Int), (a : Int), ((a + U.size : Nat) : Int), fs[i].2.extract a b) (fs[i].1, doneB fs[i].2 [((i : Int), (a : Int), (b : Int), U)]) (fs.drop (i + 1)) (fun y hy => (htx y (List.mem_of_mem_drop hy)).2) (fs.take i) 0 (fun y hy => (htx y (List.mem_of_mem_take hy)).2) (by simp only [Ed.file]; omega)
    rw [← hm] at hg2
    dsimp only at hg2
    rw [if_pos hf2, hbk] at hg2
    have hfin : fs.take i ++ (fs[i].1, fs[i].2) :: fs.drop (i + 1) = fs := hsp.symm
    rw [hfin] at hg2
    have hw2 := wrongF_mk (by omega) hwm
    unfold changeF
    rw [sortE_one, if_neg (by rw [hw2]; simp), if_neg (by rw [hmf2]; simp), hg2]
  · cases hg1

end Go.Proofs.YthklodlhbafehaaDoor
