/- Plain facts: a path beside a file, piece by piece, is what it is byte by byte. -/
import Derived.Test.YthklodlhbafehaaDoorRFind
namespace Go.Proofs.YthklodlhbafehaaDoor
open Go.RowKit

theorem get_bang (l : List UInt8) (j : Nat) (h : j < l.length) : (({ data := l.toArray } : ByteArray).data[j]!) = l[j] := by simp [h]
theorem byte_ne {c : UInt8} (h : c ≠ 47) : ((c.toNat : Nat) : Int) ≠ 47 := fun e => h (byte_eq e)

theorem lastS_none (l : List UInt8) (h : 47 ∉ l) : lastS l = -1 := by
  rcases Lib.lastIndexByte_spec ⟨l.toArray⟩ 47 with ⟨e, _⟩ | ⟨i, hi, e, hc, _⟩
  · exact e
  · have hi' : i < l.length := by simpa [ByteArray.size] using hi
    rw [get_bang l i hi'] at hc
    exact absurd (byte_eq hc) (fun e => h (e ▸ List.getElem_mem hi'))

theorem lastS_cut (A B : List UInt8) (h : 47 ∉ B) : lastS (A ++ 47 :: B) = A.length := by
  have hlen : (A ++ 47 :: B).length = A.length + 1 + B.length := by simp; omega
  have hA : (A ++ 47 :: B)[A.length]'(by omega) = 47 := by simp
  rcases Lib.lastIndexByte_spec ⟨(A ++ 47 :: B).toArray⟩ 47 with ⟨_, hn⟩ | ⟨i, hi, e, hc, hn⟩
  · exfalso
    refine hn A.length (by simp [ByteArray.size]) ?_
    rw [get_bang _ _ (by omega), hA]; rfl
  · have hi' : i < (A ++ 47 :: B).length := by simpa [ByteArray.size] using hi
    rw [get_bang _ _ hi'] at hc
    have hc' := byte_eq hc
    rcases Nat.lt_trichotomy i A.length with h1 | h1 | h1
    · exfalso
      refine hn A.length h1 (by simp [ByteArray.size]) ?_
      rw [get_bang _ _ (by omega), hA]; rfl
    · subst h1; exact e
    · exfalso
      have : (A ++ 47 :: B)[i] ∈ B := by
        obtain ⟨d, rfl⟩ : ∃ d, i = A.length + (d + 1) := ⟨i - A.length - 1, by omega⟩
        rw [List.getElem_append_right (by omega)]
        have h3 : (47 :: B)[d + 1]? = some ((47 :: B)[A.length + (d + 1) - A.length]'(by simp at hi'; simp; omega)) := by
          rw [List.getElem?_eq_some_iff]
          refine ⟨by simp at hi'; simp; omega, ?_⟩
          congr 1
          omega
        rw [List.getElem?_cons_succ] at h3
        exact List.mem_of_getElem? h3
      rw [hc'] at this
      exact h this

def joined (up : List (List UInt8)) : List UInt8 := up.flatMap fun p => 47 :: p
theorem joined_snoc (up : List (List UInt8)) (p : List UInt8) : joined (up ++ [p]) = joined up ++ 47 :: p := by simp [joined]

def freeP (up : List (List UInt8)) : Prop := ∀ p ∈ up, 47 ∉ p

theorem folder_joined (l : List UInt8) : folderL l = joined (pcsL l).dropLast := by
  obtain ⟨i, x, hp⟩ := pcsL_last l
  have hj := pcsL_join l
  have hf : 47 ∉ x := pcsL_free l x (by rw [hp]; simp)
  rw [hp] at hj ⊢
  rw [List.dropLast_concat]
  have hj' : joined i ++ 47 :: x = 47 :: l := by rw [← joined_snoc]; exact hj
  cases i with
  | nil =>
    simp [joined] at hj'
    subst hj'
    simp [folderL, lastS_none x hf, joined]
  | cons a b =>
    have e : joined (a :: b) = 47 :: (a ++ joined b) := by simp [joined]
    rw [e] at hj' ⊢
    rw [List.cons_append] at hj'
    injection hj' with _ hl
    rw [← hl]
    unfold folderL
    rw [lastS_cut _ x hf, if_neg (by omega), Int.toNat_natCast, List.take_left']
    rfl

def stepUp (up : Option (List (List UInt8))) (p : List UInt8) : Option (List (List UInt8)) :=
  up.bind fun u => if p = [46] then some u else if p = [46, 46] then (if u = [] then none else some u.dropLast) else some (u ++ [p])

theorem toList_toB (p : List UInt8) : (toB p).toList = p := by rw [ByteArray.toList_eq]; rfl

theorem step_joined (u : List (List UInt8)) (p : List UInt8) (hu : freeP u) : stepWay (some (joined u)) (toB p) = (stepUp (some u) p).map joined := by
  unfold stepWay stepUp
  simp only [Option.bind_some, toList_toB, data_toB]
  by_cases h1 : p = [46]
  · subst h1; simp
  · rw [if_neg (by simpa using h1), if_neg h1]
    by_cases h2 : p = [46, 46]
    · subst h2
      simp only [beq_self_eq_true, if_true]
      by_cases h3 : u = []
      · subst h3
        have : lastS (joined []) = -1 := lastS_none _ (by simp [joined])
        rw [this]; simp
      · have hd := List.dropLast_concat_getLast h3
        have hf : 47 ∉ u.getLast h3 := hu _ (List.getLast_mem h3)
        have hl : lastS (joined u) = (joined u.dropLast).length := by
          rw [← hd, joined_snoc, List.dropLast_concat]; exact lastS_cut _ _ hf
        rw [hl, if_neg (by omega), if_neg h3]
        simp only [Int.toNat_natCast, Option.map_some]
        have : joined u = joined u.dropLast ++ 47 :: u.getLast h3 := by rw [← joined_snoc, hd]
        rw [this, List.take_left']
        simp
    · rw [if_neg (by simpa using h2), if_neg h2]
      simp [joined_snoc]

theorem step_free {u v : List (List UInt8)} {p : List UInt8} (hu : freeP u) (hp : 47 ∉ p) (h : stepUp (some u) p = some v) : freeP v := by
  unfold stepUp at h
  simp only [Option.bind_some] at h
  split at h
  · cases h; exact hu
  · split at h
    · split at h
      · cases h
      · cases h; exact fun q hq => hu q (List.dropLast_subset _ hq)
    · cases h
      intro q hq
      rcases List.mem_append.1 hq with hq | hq
      · exact hu q hq
      · simp at hq; subst hq; exact hp

theorem fold_none (ps : List (List UInt8)) : ps.foldl stepUp none = none := by
  induction ps with
  | nil => rfl
  | cons p r ih => exact ih
theorem foldWay_none (ps : List ByteArray) : ps.foldl stepWay none = none := by
  induction ps with
  | nil => rfl
  | cons p r ih => exact ih

theorem fold_joined : ∀ (ps : List (List UInt8)) (u : List (List UInt8)), freeP u → freeP ps → (ps.map toB).foldl stepWay (some (joined u)) = (ps.foldl stepUp (some u)).map joined
  | [], u, _, _ => rfl
  | p :: r, u, hu, hp => by
    rw [List.map_cons, List.foldl_cons, List.foldl_cons, step_joined u p hu]
    cases hs : stepUp (some u) p with
    | none => rw [Option.map_none, foldWay_none, fold_none]; rfl
    | some v => exact fold_joined r v (step_free hu (hp p (by simp)) hs) (fun q hq => hp q (by simp [hq]))

/-- The pieces of the path that a path means in a file. -/
def upOf (s path : ByteArray) : Option (List (List UInt8)) := (pcsL path.data.toList).foldl stepUp (some (pcsL s.data.toList).dropLast)
def textUp (up : List (List UInt8)) : ByteArray := toB ((joined up).drop 1)

theorem out_joined (u : List (List UInt8)) : outOf (joined u) = textUp u := by
  unfold outOf textUp toB
  congr 2
  unfold Lib.trimPrefix Lib.hasPrefix
  cases u with
  | nil => simp [joined]
  | cons a b => simp [joined]

theorem beside_up (s path : ByteArray) : besideB s path = match upOf s path with | none => ⟨#[]⟩ | some u => if cleanB (textUp u) then textUp u else ⟨#[]⟩ := by
  unfold besideB wayOf upOf
  rw [pcsB_eq, folder_joined, fold_joined _ _ (fun p hp => pcsL_free _ p (List.dropLast_subset _ hp)) (pcsL_free _)]
  cases (pcsL path.data.toList).foldl stepUp (some (pcsL s.data.toList).dropLast) with
  | none => rfl
  | some u => simp only [Option.map_some, out_joined]

theorem textUp_nil : textUp [] = ⟨#[]⟩ := rfl
theorem textUp_one (p : List UInt8) : textUp [p] = toB p := by simp [textUp, joined]
theorem textUp_snoc (u : List (List UInt8)) (p : List UInt8) (h : u ≠ []) : textUp (u ++ [p]) = textUp u ++ ⟨#[47]⟩ ++ toB p := by
  unfold textUp
  rw [joined_snoc, List.drop_append_of_le_length (by cases u with | nil => exact absurd rfl h | cons a b => simp [joined])]
  rw [← toB_data (toB ((joined u).drop 1) ++ ⟨#[47]⟩ ++ toB p)]
  congr 1
  simp [ByteArray.data_append, toB]

end Go.Proofs.YthklodlhbafehaaDoor
