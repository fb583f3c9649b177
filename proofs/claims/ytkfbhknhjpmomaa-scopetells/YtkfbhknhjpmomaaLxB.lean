/- Walks of numberSize and of what is quoted. · Walk of what is quoted. · Walks of ValidRune, IndexRune and IndexAny at the two bytes that end a path, for whatever bytes. · Walks of pathSize, signSize and blankSize. -/
import Derived.Test.YtkfbhknhjpmomaaLxA
import Derived.Test.YtkfbhknhjpmomaaLxShelf
import Derived.Laws.RangeAny
import Derived.Laws.Runes
import Derived.Deep.LoopGhost
import Derived.WalkMore
import Derived.Lib.OthersKept
namespace Go.Proofs.Ytkfbhknhjpmomaa
section
open Go.RowKit Go.Shelf

theorem u8i (c k : UInt8) : (c = k) = ((c.toNat : Int) = (k.toNat : Int)) := by
  apply propext
  constructor
  · intro h; rw [h]
  · intro h; exact UInt8.toNat_inj.1 (by omega)

/-- The same, of the bytes as numbers. -/
theorem numB_int (l : List UInt8) (i : Nat) (c d : UInt8) (hc : byteAt l (i + 1) = c) (hd : byteAt l i = d) :
    numB l (i + 1) = if (c.toNat : Int) = 46 then true else if (c.toNat : Int) = 43 ∨ (c.toNat : Int) = 45 then ((d.toNat : Int) == 101 || (d.toNat : Int) == 69) else wordB c := by
  unfold numB
  rw [hc, Nat.add_sub_cancel, hd]
  simp only [u8i]
  rfl

theorem startsNum_trim (l : List UInt8) : startsNum l = match Lib.trimPrefix l [46] with | [] => false | d :: _ => digB d := by
  cases l with
  | nil => rfl
  | cons c r =>
    by_cases h : c = 46
    · subst h
      simp [startsNum, Lib.trimPrefix, Lib.hasPrefix]
      cases r <;> rfl
    · have h' : ¬ (46 = c) := fun e => h e.symm
      simp [startsNum, Lib.trimPrefix, Lib.hasPrefix, h, h']

end
section
open Go.RowKit Go.Shelf

theorem below_drewN {B : Nat} {a w : World} (h : Below B a w) (n : Nat) : Below B a (w.drewN n) := h.trans ⟨rfl, rfl, rfl, Nat.le_refl _, fun _ _ => rfl⟩

theorem quotGo_end (q : UInt8) (l : List UInt8) (k : Nat) (h : l.length ≤ k) : quotGo q (l.drop k) k = -1 := by
  rw [List.drop_eq_nil_of_le h]; rfl
theorem quotGo_step (q : UInt8) (l : List UInt8) (k : Nat) (c : UInt8) (h : l[k]? = some c) :
    quotGo q (l.drop k) k = if c = 10 then -1 else if c = q then (k : Int) + 1 else if c = 92 ∧ k + 1 < l.length ∧ byteAt l (k + 1) ≠ 10 then quotGo q (l.drop (k + 2)) (k + 2) else quotGo q (l.drop (k + 1)) (k + 1) := by
  have hk := (List.getElem?_eq_some_iff.1 h).1
  have e1 : l.drop k = c :: l.drop (k + 1) := by
    rw [List.drop_eq_getElem_cons hk]
    congr 1
    exact (List.getElem?_eq_some_iff.1 h).2
  rw [e1]
  by_cases hk1 : k + 1 < l.length
  · have e2 : l.drop (k + 1) = byteAt l (k + 1) :: l.drop (k + 2) := by
      rw [List.drop_eq_getElem_cons hk1]
      congr 1
      exact (byteAt_eq l (k + 1) _ (List.getElem?_eq_getElem hk1)).symm
    rw [e2]
    simp only [quotGo, hk1, true_and]
  · have e2 : l.drop (k + 1) = [] := List.drop_eq_nil_of_le (by omega)
    rw [e2]
    simp [quotGo, hk1]

end
section
open Go.RowKit Go.Shelf

def endsB : ByteArray := ⟨#[62, 10]⟩

/-- A rune's bytes, beyond those of ASCII: none of them is one of ASCII. -/
theorem decode_bytes (s : ByteArray) (pos : Nat) (h : pos < s.size) (ha : 128 ≤ (s[pos]'h).toNat) : ∀ k, k < (Utf8.decode s pos).2 → pos + k < s.size ∧ 128 ≤ (s.get! (pos + k)).toNat := by
  have hn : ¬ (s[pos]'h).toNat < 128 := by omega
  have h0 : pos + 0 < s.size ∧ 128 ≤ (s.get! (pos + 0)).toNat := by rw [get_at s pos h]; exact ⟨h, ha⟩
  intro k
  simp only [Utf8.decode, get_at s pos h, hn, if_false]
  have one : ∀ j : Nat, j < 1 → pos + j < s.size ∧ 128 ≤ (s.get! (pos + j)).toNat := fun j hj => by
    have : j = 0 := by omega
    subst this
    exact h0
  split
  · rename_i h1
    simp only [Bool.and_eq_true, decide_eq_true_eq, beq_iff_eq] at h1
    split
    · intro hk
      match k, hk with
      | 0, _ => exact h0
      | 1, _ => exact ⟨h1.2.1, by have := h1.2.2; omega⟩
      | k + 2, hk => simp only at hk; omega
    · exact one k
  · split
    · rename_i h1
      simp only [Bool.and_eq_true, decide_eq_true_eq, beq_iff_eq] at h1
      split
      · intro hk
        match k, hk with
        | 0, _ => exact h0
        | 1, _ => exact ⟨h1.1.2.1, by have := h1.1.2.2; omega⟩
        | 2, _ => exact ⟨h1.2.1, by have := h1.2.2; omega⟩
        | k + 3, hk => simp only at hk; omega
      · exact one k
    · split
      · rename_i h1
        simp only [Bool.and_eq_true, decide_eq_true_eq, beq_iff_eq] at h1
        split
        · intro hk
          match k, hk with
          | 0, _ => exact h0
          | 1, _ => exact ⟨h1.1.1.2.1, by have := h1.1.1.2.2; omega⟩
          | 2, _ => exact ⟨h1.1.2.1, by have := h1.1.2.2; omega⟩
          | 3, _ => exact ⟨h1.2.1, by have := h1.2.2; omega⟩
          | k + 4, hk => simp only at hk; omega
        · exact one k
      · exact one k

theorem iter_below (w : World) (s : ByteArray) (pos : Nat) : Below w.heap.size w (w.iter s pos) := (Below.refl _ w).alloc (Nat.le_refl _) _

/-- No byte of the two stands below place i: nor below i + n, if those between are beyond ASCII. -/
theorem noAny_add (l : List UInt8) (i n : Nat) (h : Lib.NoAny l [62, 10] i) (hn : ∀ k, k < n → ∀ b, l[i + k]? = some b → 128 ≤ b.toNat) : Lib.NoAny l [62, 10] (i + n) := by
  intro j b hj hb
  by_cases hji : j < i
  · exact h j b hji hb
  · have := hn (j - i) (by omega) b (by rw [show i + (j - i) = j by omega]; exact hb)
    simp only [List.contains_cons, List.contains_nil, Bool.or_false, Bool.or_eq_false_iff, beq_eq_false_iff_ne]
    constructor <;> (intro e; subst e; simp at this)

theorem get_data (s : ByteArray) (k : Nat) (b : UInt8) (h : s.data.toList[k]? = some b) : s.get! k = b := by
  have hk : k < s.size := by rw [← size_data]; exact (List.getElem?_eq_some_iff.1 h).1
  have h2 := get_at s k hk
  rw [Nat.add_zero] at h2
  rw [h2]
  rw [List.getElem?_eq_getElem (by rw [size_data]; exact hk)] at h
  exact Option.some.inj h

end
section
open Go.RowKit Go.Shelf

theorem indexAny_end : ∀ (l : List UInt8), Lib.indexAny l [62, 10] = if pathEnd l < l.length then (pathEnd l : Int) else -1
  | [] => rfl
  | c :: r => by
    have ih := indexAny_end r
    unfold Lib.indexAny
    by_cases h : c = 62 ∨ c = 10
    · have hc : [62, 10].contains c = true := by rcases h with rfl | rfl <;> rfl
      have hp : pathEnd (c :: r) = 0 := by
        unfold pathEnd; rw [List.findIdx_cons]
        rcases h with rfl | rfl <;> rfl
      rw [if_pos hc, hp]; simp
    · have h1 : ¬ c = 62 := fun e => h (.inl e)
      have h2 : ¬ c = 10 := fun e => h (.inr e)
      have hc : ¬ [62, 10].contains c = true := by
        simp only [List.contains_cons, List.contains_nil, Bool.or_false, Bool.or_eq_true, beq_iff_eq]; exact h
      have hp : pathEnd (c :: r) = pathEnd r + 1 := by
        unfold pathEnd; rw [List.findIdx_cons, beq_eq_false_iff_ne.2 h1, beq_eq_false_iff_ne.2 h2]; rfl
      rw [if_neg hc, ih, hp]
      by_cases hl : pathEnd r < r.length
      · have e1 : (if pathEnd r < r.length then ((pathEnd r : Nat) : Int) else -1) = (pathEnd r : Int) := if_pos hl
        have e2 : (if pathEnd r + 1 < (c :: r).length then ((pathEnd r + 1 : Nat) : Int) else -1) = ((pathEnd r + 1 : Nat) : Int) := if_pos (by simp; omega)
        rw [e1, e2, if_neg (by simp)]
        push_cast; rfl
      · have e1 : (if pathEnd r < r.length then ((pathEnd r : Nat) : Int) else -1) = -1 := if_neg hl
        have e2 : (if pathEnd r + 1 < (c :: r).length then ((pathEnd r + 1 : Nat) : Int) else -1) = -1 := if_neg (by simp; omega)
        rw [e1, e2]; rfl

theorem pre1 (a : UInt8) (l : List UInt8) : ([a].isPrefixOf l) = decide (l[0]? = some a) := by
  rcases l with _ | ⟨x, r⟩
  · rfl
  · apply bool_ext; simp [List.isPrefixOf]; exact ⟨fun h => h.symm, fun h => h.symm⟩

/-- What a slice of strings holds. -/
def SAt (w : World) (b : Nat) (l : List (List UInt8)) : Prop := b < w.heap.size ∧ ∀ (j : Nat) x, l[j]? = some x → w.cell? ⟨b, j, none⟩ = some (.string ⟨x.toArray⟩)
theorem SAt.below {w w' : World} {b : Nat} {l : List (List UInt8)} (h : SAt w b l) (hb : Below w.heap.size w w') : SAt w' b l :=
  ⟨Nat.lt_of_lt_of_le h.1 hb.size, fun j x hx => (hb.cell (p := ⟨b, j, none⟩) h.1).trans (h.2 j x hx)⟩

def firstPre (ss : List (List UInt8)) (l : List UInt8) : Nat := match ss.find? (·.isPrefixOf l) with | some s => s.length | none => 0

theorem index_note : ∀ (l : List UInt8) (i : Nat), (match noteEnd l i with | some k => (k : Int) | none => -1) = if Lib.index l [42, 47] = -1 then -1 else Lib.index l [42, 47] + i
  | [], _ => rfl
  | [c], i => by
    have : Lib.index [c] [42, 47] = -1 := by simp [Lib.index, List.isPrefixOf]
    rw [if_pos this]; rfl
  | c :: d :: r, i => by
    have ih := index_note (d :: r) (i + 1)
    have hge := Lib.index_ge (d :: r) [42, 47]
    unfold Lib.index noteEnd
    by_cases h : c = 42 ∧ d = 47
    · have hp : [42, 47].isPrefixOf (c :: d :: r) = true := by rw [h.1, h.2]; rfl
      rw [if_pos h, if_pos hp]; simp
    · have hp : ¬ [42, 47].isPrefixOf (c :: d :: r) = true := by
        intro hp; apply h
        simp [List.isPrefixOf] at hp
        exact ⟨hp.1.symm, hp.2.symm⟩
      rw [if_neg h, if_neg hp, ih]
      generalize Lib.index (d :: r) [42, 47] = q at hge
      by_cases hm : q = -1
      · subst hm; rfl
      · have e : (if (q == -1) = true then (-1 : Int) else q + 1) = q + 1 := if_neg (by simpa using hm)
        rw [e, if_neg hm, if_neg (by omega)]; push_cast; omega

theorem index_len (sub : List UInt8) : ∀ (l : List UInt8), Lib.index l sub ≤ l.length
  | [] => by unfold Lib.index; split <;> simp
  | b :: l => by
    have ih := index_len sub l
    unfold Lib.index
    split
    · simp only [List.length_cons]; push_cast; omega
    · split
      · simp only [List.length_cons]; push_cast; omega
      · simp only [List.length_cons]; push_cast; omega

theorem note_at (l : List UInt8) : (match noteEnd l 0 with | some k => (k : Int) + 4 | none => -1) = if Lib.index l [42, 47] = -1 then -1 else Lib.index l [42, 47] + 4 := by
  have h := index_note l 0
  cases hn : noteEnd l 0 with
  | none =>
    rw [hn] at h
    simp only at h ⊢
    by_cases hm : Lib.index l [42, 47] = -1
    · rw [if_pos hm]
    · rw [if_neg hm] at h; simp only [Int.cast_ofNat_Int, Int.add_zero] at h; exact absurd h.symm hm
  | some k =>
    rw [hn] at h
    simp only at h ⊢
    by_cases hm : Lib.index l [42, 47] = -1
    · rw [if_pos hm] at h; omega
    · rw [if_neg hm] at h ⊢; simp only [Int.cast_ofNat_Int, Int.add_zero] at h; rw [h]

theorem blankSz_pre (l : List UInt8) (c : UInt8) (h : l[0]? = some c) : blankSz l = if c = 32 ∨ c = 9 ∨ c = 10 ∨ c = 13 then 1
    else if [47, 47].isPrefixOf l then ((spanN (fun i => byteAt l i != 10) l.length : Nat) : Int)
    else if [47, 42].isPrefixOf l then (if Lib.index (l.drop 2) [42, 47] = -1 then -1 else Lib.index (l.drop 2) [42, 47] + 4)
    else 0 := by
  cases l with
  | nil => cases h
  | cons c' r =>
    simp at h
    subst h
    rw [← note_at]
    unfold blankSz
    simp only [pre2, decide_eq_true_eq, List.getElem?_cons_zero, Option.some.injEq, List.getElem?_cons_succ, List.head?_eq_getElem?, List.drop_succ_cons, List.drop_one]
    rfl

theorem indexByte_blank (c : UInt8) : (0 ≤ Lib.indexByte [32, 9, 10, 13] c) ↔ (c = 32 ∨ c = 9 ∨ c = 10 ∨ c = 13) := by
  by_cases h1 : c = 32
  · subst h1; decide
  · by_cases h2 : c = 9
    · subst h2; decide
    · by_cases h3 : c = 10
      · subst h3; decide
      · by_cases h4 : c = 13
        · subst h4; decide
        · have e1 : ¬ (32 = c) := fun e => h1 e.symm
          have e2 : ¬ (9 = c) := fun e => h2 e.symm
          have e3 : ¬ (10 = c) := fun e => h3 e.symm
          have e4 : ¬ (13 = c) := fun e => h4 e.symm
          simp [Lib.indexByte, e1, e2, e3, e4, h1, h2, h3, h4]

end
end Go.Proofs.Ytkfbhknhjpmomaa
