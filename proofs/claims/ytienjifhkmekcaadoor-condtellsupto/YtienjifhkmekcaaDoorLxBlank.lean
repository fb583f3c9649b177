/- Walks of pathSize, signSize and blankSize. -/
import Derived.Test.YtienjifhkmekcaaDoorLxRune
namespace Go.Proofs.YtienjifhkmekcaaDoor
open Go.RowKit Go.Shelf

theorem indexAny_end : ∀ (l : List UInt8), Lib.indexAny l [62, 10] = if pathEnd l < l.length then (pathEnd l : Int) else -1
  | [] => rfl
  | c :: r => by
    have ih := indexAny_end r
    unfold Lib.indexAny
    by_cases h : c = 62 ∨ c = 10
    · have hc : [62, 10].contains c = true := by rcases h with rfl | rfl <;> rfl
      have hp : pathEnd (c :: r) = 0 := by
        unfold pathEnd; rw [List.findIdx_cons]
        rcases h with rfl | rfl <;> rfl
      rw [if_pos hc, hp]; simp
    · have h1 : ¬ c = 62 := fun e => h (.inl e)
      have h2 : ¬ c = 10 := fun e => h (.inr e)
      have hc : ¬ [62, 10].contains c = true := by
        simp only [List.contains_cons, List.contains_nil, Bool.or_false, Bool.or_eq_true, beq_iff_eq]; exact h
      have hp : pathEnd (c :: r) = pathEnd r + 1 := by
        unfold pathEnd; rw [List.findIdx_cons, beq_eq_false_iff_ne.2 h1, beq_eq_false_iff_ne.2 h2]; rfl
      rw [if_neg hc, ih, hp]
      by_cases hl : pathEnd r < r.length
      · have e1 : (if pathEnd r < r.length then ((pathEnd r : Nat) : Int) else -1) = (pathEnd r : Int) := if_pos hl
        have e2 : (if pathEnd r + 1 < (c :: r).length then ((pathEnd r + 1 : Nat) : Int) else -1) = ((pathEnd r + 1 : Nat) : Int) := if_pos (by simp; omega)
        rw [e1, e2, if_neg (by simp)]
        push_cast; rfl
      · have e1 : (if pathEnd r < r.length then ((pathEnd r : Nat) : Int) else -1) = -1 := if_neg hl
        have e2 : (if pathEnd r + 1 < (c :: r).length then ((pathEnd r + 1 : Nat) : Int) else -1) = -1 := if_neg (by simp; omega)
        rw [e1, e2]; rfl

theorem pre1 (a : UInt8) (l : List UInt8) : ([a].isPrefixOf l) = decide (l[0]? = some a) := by
  rcases l with _ | ⟨x, r⟩
  · rfl
  · apply bool_ext; simp [List.isPrefixOf]; exact ⟨fun h => h.symm, fun h => h.symm⟩

/-- What a slice of strings holds. -/
def SAt (w : World) (b : Nat) (l : List (List UInt8)) : Prop := b < w.heap.size ∧ ∀ (j : Nat) x, l[j]? = some x → w.cell? ⟨b, j, none⟩ = some (.string ⟨x.toArray⟩)
theorem SAt.below {w w' : World} {b : Nat} {l : List (List UInt8)} (h : SAt w b l) (hb : Below w.heap.size w w') : SAt w' b l :=
  ⟨Nat.lt_of_lt_of_le h.1 hb.size, fun j x hx => (hb.cell (p := ⟨b, j, none⟩) h.1).trans (h.2 j x hx)⟩

def firstPre (ss : List (List UInt8)) (l : List UInt8) : Nat := match ss.find? (·.isPrefixOf l) with | some s => s.length | none => 0

theorem index_note : ∀ (l : List UInt8) (i : Nat), (match noteEnd l i with | some k => (k : Int) | none => -1) = if Lib.index l [42, 47] = -1 then -1 else Lib.index l [42, 47] + i
  | [], _ => rfl
  | [c], i => by
    have : Lib.index [c] [42, 47] = -1 := by simp [Lib.index, List.isPrefixOf]
    rw [if_pos this]; rfl
  | c :: d :: r, i => by
    have ih := index_note (d :: r) (i + 1)
    have hge := Lib.index_ge (d :: r) [42, 47]
    unfold Lib.index noteEnd
    by_cases h : c = 42 ∧ d = 47
    · have hp : [42, 47].isPrefixOf (c :: d :: r) = true := by rw [h.1, h.2]; rfl
      rw [if_pos h, if_pos hp]; simp
    · have hp : ¬ [42, 47].isPrefixOf (c :: d :: r) = true := by
        intro hp; apply h
        simp [List.isPrefixOf] at hp
        exact ⟨hp.1.symm, hp.2.symm⟩
      rw [if_neg h, if_neg hp, ih]
      generalize Lib.index (d :: r) [42, 47] = q at hge
      by_cases hm : q = -1
      · subst hm; rfl
      · have e : (if (q == -1) = true then (-1 : Int) else q + 1) = q + 1 := if_neg (by simpa using hm)
        rw [e, if_neg hm, if_neg (by omega)]; push_cast; omega

theorem index_len (sub : List UInt8) : ∀ (l : List UInt8), Lib.index l sub ≤ l.length
  | [] => by unfold Lib.index; split <;> simp
  | b :: l => by
    have ih := index_len sub l
    unfold Lib.index
    split
    · simp only [List.length_cons]; push_cast; omega
    · split
      · simp only [List.length_cons]; push_cast; omega
      · simp only [List.length_cons]; push_cast; omega

theorem note_at (l : List UInt8) : (match noteEnd l 0 with | some k => (k : Int) + 4 | none => -1) = if Lib.index l [42, 47] = -1 then -1 else Lib.index l [42, 47] + 4 := by
  have h := index_note l 0
  cases hn : noteEnd l 0 with
  | none =>
    rw [hn] at h
    simp only at h ⊢
    by_cases hm : Lib.index l [42, 47] = -1
    · rw [if_pos hm]
    · rw [if_neg hm] at h; simp only [Int.cast_ofNat_Int, Int.add_zero] at h; exact absurd h.symm hm
  | some k =>
    rw [hn] at h
    simp only at h ⊢
    by_cases hm : Lib.index l [42, 47] = -1
    · rw [if_pos hm] at h; omega
    · rw [if_neg hm] at h ⊢; simp only [Int.cast_ofNat_Int, Int.add_zero] at h; rw [h]

theorem blankSz_pre (l : List UInt8) (c : UInt8) (h : l[0]? = some c) : blankSz l = if c = 32 ∨ c = 9 ∨ c = 10 ∨ c = 13 then 1
    else if [47, 47].isPrefixOf l then ((spanN (fun i => byteAt l i != 10) l.length : Nat) : Int)
    else if [47, 42].isPrefixOf l then (if Lib.index (l.drop 2) [42, 47] = -1 then -1 else Lib.index (l.drop 2) [42, 47] + 4)
    else 0 := by
  cases l with
  | nil => cases h
  | cons c' r =>
    simp at h
    subst h
    rw [← note_at]
    unfold blankSz
    simp only [pre2, decide_eq_true_eq, List.getElem?_cons_zero, Option.some.injEq, List.getElem?_cons_succ, List.head?_eq_getElem?, List.drop_succ_cons, List.drop_one]
    rfl

theorem indexByte_blank (c : UInt8) : (0 ≤ Lib.indexByte [32, 9, 10, 13] c) ↔ (c = 32 ∨ c = 9 ∨ c = 10 ∨ c = 13) := by
  by_cases h1 : c = 32
  · subst h1; decide
  · by_cases h2 : c = 9
    · subst h2; decide
    · by_cases h3 : c = 10
      · subst h3; decide
      · by_cases h4 : c = 13
        · subst h4; decide
        · have e1 : ¬ (32 = c) := fun e => h1 e.symm
          have e2 : ¬ (9 = c) := fun e => h2 e.symm
          have e3 : ¬ (10 = c) := fun e => h3 e.symm
          have e4 : ¬ (13 = c) := fun e => h4 e.symm
          simp [Lib.indexByte, e1, e2, e3, e4, h1, h2, h3, h4]

/-- The library's variable holds some int. -/
def Mx (w : World) : Prop := ∃ m, w.cell? ⟨4, 0, none⟩ = some (.int .i64 m)
theorem Mx.below {w w' : World} (h : Mx w) (hb : Below w.heap.size w w') : Mx w' := by
  obtain ⟨m, hm⟩ := h
  exact ⟨m, (hb.cell (p := ⟨4, 0, none⟩) (World.block_lt_of_cell? _ _ hm)).trans hm⟩

end Go.Proofs.YtienjifhkmekcaaDoor
