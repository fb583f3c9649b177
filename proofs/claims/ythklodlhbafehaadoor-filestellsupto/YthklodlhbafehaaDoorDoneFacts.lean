/- Plain facts of a file's edits: those that are of it, wherever they stand in the list; how long it comes out; when it is too long. -/
import Derived.Test.YthklodlhbafehaaDoorInsFacts
namespace Go.Proofs.YthklodlhbafehaaDoor
open Go.RowKit

/-- The edits of file k, in their order. -/
def ofs (k : Int) (s : List Ed) : List Ed := s.filter (ofFile k)

def rising (s : List Ed) : Prop := s.Pairwise (fun x y => x.file ≤ y.file)
theorem rising_of {s : List Ed} (h : inOrd s) : rising s := h.imp fun {x y} h => by unfold ltE at h; omega

theorem mine_filter (k : Int) : ∀ (r : List Ed), rising r → (∀ e ∈ r, k ≤ e.file) → mine k r = ofs k r ∧ (∀ e ∈ others k r, k + 1 ≤ e.file) ∧ (∀ j, k < j → ofs j (others k r) = ofs j r) ∧ rising (others k r)
  | [], _, _ => ⟨rfl, fun e he => (by cases he), fun _ _ => rfl, List.Pairwise.nil⟩
  | x :: r, hs, hk => by
    obtain ⟨h1, h2⟩ := List.pairwise_cons.1 hs
    have hx := hk x (by simp)
    by_cases hf : x.file = k
    · have hof : ofFile k x = true := by simp [ofFile, hf]
      obtain ⟨i1, i2, i3, i4⟩ := mine_filter k r h2 (fun e he => hk e (by simp [he]))
      have em : mine k (x :: r) = x :: mine k r := by unfold mine; rw [List.takeWhile_cons, hof]; rfl
      have eo : others k (x :: r) = others k r := by unfold others; rw [List.dropWhile_cons, hof]; rfl
      refine ⟨?_, by rw [eo]; exact i2, fun j hj => ?_, by rw [eo]; exact i4⟩
      · rw [em, i1]; unfold ofs; rw [List.filter_cons, hof]; rfl
      · rw [eo, i3 j hj]
        unfold ofs
        have : ofFile j x = false := by simp [ofFile, hf]; omega
        rw [List.filter_cons, this]; rfl
    · have hof : ofFile k x = false := by simp [ofFile, hf]
      have em : mine k (x :: r) = [] := by unfold mine; rw [List.takeWhile_cons, hof]; rfl
      have eo : others k (x :: r) = x :: r := by unfold others; rw [List.dropWhile_cons, hof]; rfl
      have hall : ∀ e ∈ x :: r, k + 1 ≤ e.file := by
        intro e he
        rcases List.mem_cons.1 he with rfl | he
        · omega
        · have := h1 e he; omega
      refine ⟨?_, by rw [eo]; exact hall, fun j _ => by rw [eo], by rw [eo]; exact hs⟩
      rw [em]
      unfold ofs
      rw [eq_comm, List.filter_eq_nil_iff]
      intro e he
      have := hall e he
      simp [ofFile]; omega

/-- Files from number k on, each with its own edits out of the whole list. -/
def goF (s : List Ed) (k : Nat) : List Src → Option (List Src)
  | [] => some []
  | x :: r => if fitsB x.2 (ofs k s) then (goF s (k + 1) r).map ((x.1, doneB x.2 (ofs k s)) :: ·) else none

theorem changeGo_filter (s : List Ed) : ∀ (fs : List Src) (k : Nat) (rest : List Ed), rising rest → (∀ e ∈ rest, (k : Int) ≤ e.file) → (∀ j : Nat, k ≤ j → ofs j rest = ofs j s) → changeGo k fs rest = goF s k fs
  | [], _, _, _, _, _ => rfl
  | x :: r, k, rest, h1, h2, h3 => by
    obtain ⟨i1, i2, i3, i4⟩ := mine_filter k rest h1 h2
    have ih := changeGo_filter s r (k + 1) (others k rest) i4 (fun e he => by have := i2 e he; push_cast; omega) (fun j hj => by rw [i3 j (by omega)]; exact h3 j (by omega))
    rw [changeGo_cons, ih, i1, h3 k (Nat.le_refl _)]
    rfl

theorem go_whole (fs : List Src) (s : List Ed) (hs : inOrd s) (hm : ∀ e ∈ s, 0 ≤ e.file) : changeGo 0 fs s = goF s 0 fs :=
  changeGo_filter s fs 0 s (rising_of hs) (fun e he => hm e he) (fun _ _ => rfl)

theorem splice_long (T : List UInt8) : ∀ (es : List Ed) (k : Int), 0 ≤ k → Chain T.length k es → ((spliceL T k.toNat es).length : Int) = T.length - k + gain es
  | [], k, h0, h => by
    have hk : k ≤ T.length := h
    simp only [spliceL, List.length_drop, gain, List.map_nil, List.sum_nil]
    omega
  | e :: r, k, h0, h => by
    obtain ⟨h1, h2, h3, h4⟩ := h
    have ih := splice_long T r e.hi (by omega) h4
    simp only [spliceL, List.length_append, List.length_drop, List.length_take, gain, List.map_cons, List.sum_cons, Array.length_toList] at ih ⊢
    have hz : e.text.data.size = e.text.size := rfl
    have hr : (List.map (fun e : Ed => (e.text.size : Int) - (e.hi - e.lo)) r).sum = gain r := rfl
    rw [hr] at ih ⊢
    push_cast
    omega

theorem splice_text (T : List UInt8) : ∀ (es : List Ed) (k : Nat) (e : Ed), e ∈ es → e.text.size ≤ (spliceL T k es).length
  | [], _, e, h => by cases h
  | x :: r, k, e, h => by
    have hz : x.text.data.toList.length = x.text.size := by simp
    simp only [spliceL, List.length_append]
    rcases List.mem_cons.1 h with rfl | h
    · omega
    · have := splice_text T r x.hi.toNat e h; omega

/-- Too long, as the document's own Change asks: an edit's text, or the whole. -/
def muchB (T : ByteArray) (es : List Ed) : Bool := es.any (fun e => decide (3000 < e.text.size)) || decide (3000 < (spliceL T.data.toList 0 es).length)
theorem much_fits (T : ByteArray) (es : List Ed) (h : Chain T.size 0 es) : muchB T es = !fitsB T es := by
  have hl := splice_long T.data.toList es 0 (by omega) (by simpa using h)
  have hz : T.data.toList.length = T.size := by simp
  rw [hz] at hl
  have e0 : (0 : Int).toNat = 0 := rfl
  rw [e0] at hl
  unfold muchB fitsB sizeAfter
  by_cases hf : (T.size : Int) + gain es ≤ 3000
  · have h1 : ¬ 3000 < (spliceL T.data.toList 0 es).length := by omega
    have h2 : es.any (fun e => decide (3000 < e.text.size)) = false := by
      rw [List.any_eq_false]
      intro e he
      have := splice_text T.data.toList es 0 e he
      simp; omega
    simp [hf, h1, h2]
  · have h1 : 3000 < (spliceL T.data.toList 0 es).length := by omega
    simp [hf, h1]

end Go.Proofs.YthklodlhbafehaaDoor
