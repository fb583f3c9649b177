/- Plain facts: pieces one by one are all pieces; tokens of pieces. -/
import Derived.Test.YtkfbhknhjpmomaaLxC
import Derived.Test.YtkfbhknhjpmomaaLxLine
namespace Go.Proofs.Ytkfbhknhjpmomaa
open Go.RowKit Go.Shelf

theorem pick_kind : ∀ (ss : List (Int × Int)), (∀ p ∈ ss, p.1 ≠ 0) → (pick ss).1 ≠ 0
  | [], _ => by simp [pick]
  | (k, n) :: r, h => by
    have h0 := h (k, n) (by simp)
    unfold pick
    split
    · simp
    · split
      · exact h0
      · exact pick_kind r (fun p hp => h p (by simp [hp]))
theorem sizes_kind (l : List UInt8) (path : Bool) : ∀ p ∈ sizes l path, p.1 ≠ 0 := by
  intro p hp
  simp only [sizes, List.mem_cons, List.not_mem_nil, or_false] at hp
  rcases hp with rfl | rfl | rfl | rfl | rfl | rfl <;> simp

theorem pcsF_next (s : List UInt8) (f i : Nat) (acc : List Pc) : pcsF s (f + 1) i acc =
    if (nextPc s i (behind s acc)).kind = -1 then .inl (nextPc s i (behind s acc)).lo
    else if (nextPc s i (behind s acc)).kind = 0 then .inr acc
    else pcsF s f (nextAt s i (behind s acc)) (acc ++ [nextPc s i (behind s acc)]) := by
  have hk := pick_kind _ (sizes_kind (s.drop (skip s i false (i == 0)).to) (!(skip s i false (i == 0)).first && behind s acc))
  have e : pcsF s (f + 1) i acc = (if (skip s i false (i == 0)).lacks then .inl (skip s i false (i == 0)).to
      else if s.length ≤ (skip s i false (i == 0)).to then .inr acc
      else if (pick (sizes (s.drop (skip s i false (i == 0)).to) (!(skip s i false (i == 0)).first && behind s acc))).1 = -1 then .inl (skip s i false (i == 0)).to
      else pcsF s f ((skip s i false (i == 0)).to + (pick (sizes (s.drop (skip s i false (i == 0)).to) (!(skip s i false (i == 0)).first && behind s acc))).2.toNat)
        (acc ++ [⟨(pick (sizes (s.drop (skip s i false (i == 0)).to) (!(skip s i false (i == 0)).first && behind s acc))).1, (skip s i false (i == 0)).to, (skip s i false (i == 0)).to + (pick (sizes (s.drop (skip s i false (i == 0)).to) (!(skip s i false (i == 0)).first && behind s acc))).2.toNat, (skip s i false (i == 0)).space, (skip s i false (i == 0)).first⟩])) := rfl
  rw [e]
  clear e
  unfold nextPc nextAt
  generalize skip s i false (i == 0) = g at hk
  obtain ⟨z, sp, fi, la⟩ := g
  dsimp only at hk ⊢
  cases la with
  | true => rfl
  | false =>
    simp only [Bool.false_eq_true, if_false]
    by_cases hl : s.length ≤ z
    · simp only [if_pos hl]; rfl
    · simp only [if_neg hl]
      by_cases hm : (pick (sizes (s.drop z) (!fi && behind s acc))).1 = -1
      · rw [if_pos hm, if_pos hm]
      · rw [if_neg hm, if_neg hm, if_neg hk]

/-- A piece that is one lies within the text, and is not empty; the next one is looked for behind it. -/
theorem nextPc_in (s : List UInt8) (i : Nat) (inc : Bool) (hi : i ≤ s.length) (h1 : (nextPc s i inc).kind ≠ -1) (h0 : (nextPc s i inc).kind ≠ 0) :
    i ≤ (nextPc s i inc).lo ∧ (nextPc s i inc).lo < (nextPc s i inc).hi ∧ (nextPc s i inc).hi ≤ s.length ∧ nextAt s i inc = (nextPc s i inc).hi := by
  have hto := skip_to s i false (i == 0) hi
  unfold nextPc nextAt at *
  generalize skip s i false (i == 0) = g at *
  obtain ⟨z, sp, fi, la⟩ := g
  dsimp only at *
  cases la with
  | true => simp at h1
  | false =>
    simp only [Bool.false_eq_true, if_false] at *
    by_cases hl : s.length ≤ z
    · simp only [if_pos hl] at h0; exact absurd rfl h0
    · simp only [if_neg hl] at *
      rcases pick_le (s.drop z) (!fi && inc) (by rw [List.length_drop]; omega) with h | h
      · exact absurd h h1
      · obtain ⟨h2, h3⟩ := h
        rw [List.length_drop] at h3
        refine ⟨hto.1, by omega, by omega, ?_⟩
        first | rfl | trivial
theorem nextAt_le (s : List UInt8) (i : Nat) (inc : Bool) (hi : i ≤ s.length) : nextAt s i inc ≤ s.length ∧ ((nextPc s i inc).kind = -1 → (nextPc s i inc).lo ≤ s.length) := by
  have hto := skip_to s i false (i == 0) hi
  unfold nextPc nextAt
  generalize skip s i false (i == 0) = g at *
  obtain ⟨z, sp, fi, la⟩ := g
  dsimp only at *
  cases la with
  | true => exact ⟨hto.2, fun _ => hto.2⟩
  | false =>
    simp only [Bool.false_eq_true, if_false]
    by_cases hl : s.length ≤ z
    · simp only [if_pos hl]; exact ⟨hto.2, fun h => absurd h (by simp)⟩
    · simp only [if_neg hl]
      have h3 := pick_bound (s.length - z : Nat) (by omega) (sizes (s.drop z) (!fi && inc)) (fun e he => by
        have h1 := (sizes_of _ _ e he).2
        rw [List.length_drop] at h1
        omega)
      exact ⟨by omega, fun _ => hto.2⟩

/-- The token of a piece. -/
def tkOf (file : Int) (l : List UInt8) (p : Pc) : Tk :=
  ⟨p.kind, ⟨(textOfPc (bytesAt l (kept l)) p).toArray⟩, p.space, p.first, file, whereI (kept l ++ [l.length]) p.lo, whereI (kept l ++ [l.length]) ((p.hi : Int) - 1) + 1, linesI l (whereI (kept l ++ [l.length]) p.lo)⟩
def tksOf (file : Int) (l : List UInt8) (ps : List Pc) : List Tk := ps.map (tkOf file l)
theorem tksOf_snoc (file : Int) (l : List UInt8) (ps : List Pc) (p : Pc) : tksOf file l (ps ++ [p]) = tksOf file l ps ++ [tkOf file l p] := by simp [tksOf]
@[simp] theorem tksOf_length (file : Int) (l : List UInt8) (ps : List Pc) : (tksOf file l ps).length = ps.length := by simp [tksOf]

theorem behind_same (file : Int) (l : List UInt8) (ps : List Pc) : behindT (tksOf file l ps) = behind (bytesAt l (kept l)) ps := by
  unfold behindT behind
  rcases hr : ps.reverse with _ | ⟨x, _ | ⟨y, r⟩⟩
  · have : ps = [] := by simpa using hr
    subst this; rfl
  · have : ps = [x] := by have := congrArg List.reverse hr; simpa using this
    subst this; rfl
  · have hp : ps = r.reverse ++ [y, x] := by have := congrArg List.reverse hr; simpa using this
    subst hp
    have hlen : (tksOf file l (r.reverse ++ [y, x])).length = r.length + 2 := by simp
    have e0 : (tksOf file l (r.reverse ++ [y, x]))[r.length]? = some (tkOf file l y) := by simp [tksOf]
    have e1 : (tksOf file l (r.reverse ++ [y, x]))[r.length + 1]? = some (tkOf file l x) := by simp [tksOf]
    rw [hlen, show r.length + 2 - 2 = r.length by omega, show r.length + 2 - 1 = r.length + 1 by omega]
    simp only [List.getD, e0, e1, Option.getD_some, isHash, isIncl, tkOf, toList_data]
    simp [Bool.and_assoc]
end Go.Proofs.Ytkfbhknhjpmomaa
