/- Tokens, as plain functions on bytes: how long each piece is, which one comes next, and all of a text's. · Plain facts of pieces: none is empty, none reaches beyond the text. · Walks of Letter, Digit, inName, span, nameSize, Name and numberSize. · Walks of nameSize and Name. -/
import Derived.Test.YtkfbhknhjpmomaaSpA
import Derived.Deep.QuietTactic
import Derived.BigQuiet
import Derived.Shelf.Abstract
namespace Go.Proofs.Ytkfbhknhjpmomaa
section
open Go.RowKit

def letB (c : UInt8) : Bool := (decide (97 ≤ c.toNat) && decide (c.toNat ≤ 122)) || (decide (65 ≤ c.toNat) && decide (c.toNat ≤ 90)) || decide (c.toNat = 95)
def digB (c : UInt8) : Bool := decide (48 ≤ c.toNat) && decide (c.toNat ≤ 57)
def wordB (c : UInt8) : Bool := letB c || digB c

/-- How many of the numbers below n hold in a row from 1 on, and 1. -/
def spanN (q : Nat → Bool) (n : Nat) : Nat := 1 + ((List.range' 1 (n - 1)).takeWhile q).length

theorem take_len (q : Nat → Bool) : ∀ (m a k : Nat), k ≤ m → (∀ i, a ≤ i → i < a + k → q i = true) → (k < m → q (a + k) = false) → ((List.range' a m).takeWhile q).length = k
  | 0, a, k, hk, _, _ => by simp; omega
  | m + 1, a, 0, _, _, h => by
    have := h (by omega)
    simp only [Nat.add_zero] at this
    rw [List.range'_succ, List.takeWhile_cons, this]; rfl
  | m + 1, a, k + 1, hk, h1, h2 => by
    have ha := h1 a (Nat.le_refl _) (by omega)
    rw [List.range'_succ, List.takeWhile_cons, ha]
    simp only [if_true, List.length_cons]
    rw [take_len q m (a + 1) k (by omega) (fun i hi hk => h1 i (by omega) (by omega)) (fun hk => by have := h2 (by omega); rw [show a + 1 + k = a + (k + 1) by omega]; exact this)]

theorem spanN_eq (q : Nat → Bool) (n r : Nat) (h1 : 1 ≤ r) (hr : r ≤ n) (hq : ∀ i, 1 ≤ i → i < r → q i = true) (he : r < n → q r = false) : spanN q n = r := by
  unfold spanN
  rw [take_len q (n - 1) 1 (r - 1) (by omega) (fun i hi hk => hq i hi (by omega)) (fun hk => by rw [show 1 + (r - 1) = r by omega]; exact he (by omega))]
  omega
theorem spanN_le (q : Nat → Bool) (n : Nat) (h : 1 ≤ n) : 1 ≤ spanN q n ∧ spanN q n ≤ n := by
  unfold spanN
  have : ((List.range' 1 (n - 1)).takeWhile q).length ≤ (List.range' 1 (n - 1)).length := (List.takeWhile_sublist _).length_le
  simp at this
  omega

def byteAt (l : List UInt8) (i : Nat) : UInt8 := l.getD i 0
theorem byteAt_eq (l : List UInt8) (i : Nat) (c : UInt8) (h : l[i]? = some c) : byteAt l i = c := by simp [byteAt, List.getD, h]

def nameSz (l : List UInt8) : Nat := if l = [] then 0 else if letB (byteAt l 0) then spanN (fun i => wordB (byteAt l i)) l.length else 0

/-- Whether byte i goes on with a number. -/
def numB (l : List UInt8) (i : Nat) : Bool :=
  if byteAt l i = 46 then true else if byteAt l i = 43 ∨ byteAt l i = 45 then decide (byteAt l (i - 1) = 101) || decide (byteAt l (i - 1) = 69) else wordB (byteAt l i)
def startsNum (l : List UInt8) : Bool := match l with
  | [] => false
  | c :: r => if c = 46 then (match r with | [] => false | d :: _ => digB d) else digB c
def numSz (l : List UInt8) : Nat := if startsNum l then spanN (numB l) l.length else 0

/-- Where what is quoted ends, from byte i on; -1: nowhere. -/
def quotGo (q : UInt8) : List UInt8 → Nat → Int
  | [], _ => -1
  | [c], i => if c = 10 then -1 else if c = q then (i : Int) + 1 else -1
  | c :: d :: r, i => if c = 10 then -1 else if c = q then (i : Int) + 1 else if c = 92 ∧ d ≠ 10 then quotGo q r (i + 2) else quotGo q (d :: r) (i + 1)
def quotSz (q : UInt8) (l : List UInt8) : Int := match l with
  | [] => 0
  | c :: r => if c = q then quotGo q r 1 else 0

def pathEnd (l : List UInt8) : Nat := l.findIdx (fun c => c == 62 || c == 10)
def pathSz (l : List UInt8) : Nat := if l[0]? = some 60 ∧ l[pathEnd l]? = some 62 then pathEnd l + 1 else 0

def signsL : List (List UInt8) := [[46, 46, 46], [60, 60, 61], [62, 62, 61], [45, 62], [43, 43], [45, 45], [60, 60], [62, 62], [60, 61], [62, 61], [61, 61], [33, 61], [38, 38], [124, 124], [43, 61], [45, 61], [42, 61], [47, 61], [37, 61], [38, 61], [124, 61], [94, 61], [35, 35], [91], [93], [40], [41], [123], [125], [46], [38], [42], [43], [45], [126], [33], [47], [37], [60], [62], [94], [124], [63], [58], [59], [61], [44], [35]]
def signSz (l : List UInt8) : Nat := match signsL.find? (·.isPrefixOf l) with
  | some s => s.length
  | none => 0

/-- Where the two bytes of a note's end stand first. -/
def noteEnd : List UInt8 → Nat → Option Nat
  | [], _ => none
  | [_], _ => none
  | c :: d :: r, i => if c = 42 ∧ d = 47 then some i else noteEnd (d :: r) (i + 1)

def blankSz (l : List UInt8) : Int := match l with
  | [] => 0
  | c :: r => if c = 32 ∨ c = 9 ∨ c = 10 ∨ c = 13 then 1
    else if c = 47 ∧ r.head? = some 47 then (spanN (fun i => byteAt l i != 10) l.length : Nat)
    else if c = 47 ∧ r.head? = some 42 then (match noteEnd r.tail 0 with | some k => (k : Int) + 4 | none => -1)
    else 0

/-- What is blank from byte i on: where it ends (or a note begins that has no end), whether something is there, whether a line ends in it. -/
structure Gap where
  to : Nat
  space : Bool
  first : Bool
  lacks : Bool

def skipF (s : List UInt8) : Nat → Nat → Bool → Bool → Gap
  | 0, i, sp, fi => ⟨i, sp, fi, false⟩
  | f + 1, i, sp, fi => if blankSz (s.drop i) = 0 then ⟨i, sp, fi, false⟩ else if blankSz (s.drop i) < 0 then ⟨i, sp, fi, true⟩
      else skipF s f (i + (blankSz (s.drop i)).toNat) true (fi || byteAt s i == 10)
def skip (s : List UInt8) (i : Nat) (sp fi : Bool) : Gap := skipF s (s.length + 1 - i) i sp fi

/-- The first of some sizes that is not 0, with its kind: kind -1 if it has no end; one other byte, if there is none. -/
def pick : List (Int × Int) → Int × Int
  | [] => (6, 1)
  | (k, n) :: r => if n = -1 then (-1, 0) else if 0 < n then (k, n) else pick r
def sizes (l : List UInt8) (path : Bool) : List (Int × Int) :=
  [(1, nameSz l), (2, numSz l), (4, quotSz 34 l), (3, quotSz 39 l), (7, if path then (pathSz l : Int) else 0), (5, signSz l)]

structure Pc where
  kind : Int
  lo : Nat
  hi : Nat
  space : Bool
  first : Bool

def textOfPc (s : List UInt8) (p : Pc) : List UInt8 := (s.take p.hi).drop p.lo
/-- Whether pieces end with a line's # and include. -/
def behind (s : List UInt8) (acc : List Pc) : Bool := match acc.reverse with
  | w :: h :: _ => h.first && (textOfPc s h == [35]) && !w.first && (textOfPc s w == [105, 110, 99, 108, 117, 100, 101])
  | _ => false

/-- All pieces of a text from byte i on, behind some; or where one begins that has no end. -/
def pcsF (s : List UInt8) : Nat → Nat → List Pc → Nat ⊕ List Pc
  | 0, _, acc => .inr acc
  | f + 1, i, acc =>
    let g := skip s i false (i == 0)
    if g.lacks then .inl g.to
    else if s.length ≤ g.to then .inr acc
    else
      let m := pick (sizes (s.drop g.to) (!g.first && behind s acc))
      if m.1 = -1 then .inl g.to
      else pcsF s f (g.to + m.2.toNat) (acc ++ [⟨m.1, g.to, g.to + m.2.toNat, g.space, g.first⟩])
def pcs (s : List UInt8) : Nat ⊕ List Pc := pcsF s (s.length + 1) 0 []

/-- A token, as it lies in memory. -/
structure Tk where
  kind : Int
  text : ByteArray
  space : Bool
  first : Bool
  file : Int
  lo : Int
  hi : Int
  line : Int
end
section
open Go.RowKit

theorem quotGo_le (q : UInt8) : ∀ (l : List UInt8) (i : Nat), quotGo q l i = -1 ∨ ((i : Int) + 1 ≤ quotGo q l i ∧ quotGo q l i ≤ i + l.length)
  | [], _ => .inl rfl
  | [c], i => by
    unfold quotGo
    by_cases h1 : c = 10
    · rw [if_pos h1]; exact .inl rfl
    · rw [if_neg h1]
      by_cases h2 : c = q
      · rw [if_pos h2]; right; simp
      · rw [if_neg h2]; exact .inl rfl
  | c :: d :: r, i => by
    unfold quotGo
    by_cases h1 : c = 10
    · rw [if_pos h1]; exact .inl rfl
    · rw [if_neg h1]
      by_cases h2 : c = q
      · rw [if_pos h2]; right; simp; omega
      · rw [if_neg h2]
        by_cases h3 : c = 92 ∧ d ≠ 10
        · rw [if_pos h3]
          rcases quotGo_le q r (i + 2) with h | h
          · exact .inl h
          · right; simp only [List.length_cons]; push_cast at h ⊢; omega
        · rw [if_neg h3]
          rcases quotGo_le q (d :: r) (i + 1) with h | h
          · exact .inl h
          · right; simp only [List.length_cons] at h ⊢; push_cast at h ⊢; omega
theorem quotSz_le (q : UInt8) (l : List UInt8) : quotSz q l = -1 ∨ (0 ≤ quotSz q l ∧ quotSz q l ≤ l.length) := by
  unfold quotSz
  cases l with
  | nil => right; simp
  | cons c r =>
    simp only
    by_cases h : c = q
    · rw [if_pos h]
      rcases quotGo_le q r 1 with h | h
      · exact .inl h
      · right; simp only [List.length_cons]; push_cast at h ⊢; omega
    · rw [if_neg h]; right; simp; omega
theorem nameSz_le (l : List UInt8) : nameSz l ≤ l.length := by
  unfold nameSz
  cases l with
  | nil => simp
  | cons c r =>
    rw [if_neg (by simp)]
    split
    · exact (spanN_le _ _ (by simp)).2
    · omega
theorem numSz_le (l : List UInt8) : numSz l ≤ l.length := by
  unfold numSz
  cases l with
  | nil => simp [startsNum]
  | cons c r =>
    split
    · exact (spanN_le _ _ (by simp)).2
    · omega
theorem pathSz_le (l : List UInt8) : pathSz l ≤ l.length := by
  unfold pathSz
  split
  · rename_i h; have := (List.getElem?_eq_some_iff.1 h.2).1; omega
  · omega
theorem signSz_le (l : List UInt8) : signSz l ≤ l.length := by
  unfold signSz
  cases h : signsL.find? (·.isPrefixOf l) with
  | none => simp
  | some s =>
    have := List.find?_some h
    simp only at this ⊢
    rw [List.isPrefixOf_iff_prefix] at this
    exact this.length_le

theorem pick_of (l : List UInt8) (hl : 1 ≤ l.length) : ∀ (ss : List (Int × Int)), (∀ p ∈ ss, p.1 ≠ -1 ∧ (p.2 = -1 ∨ (0 ≤ p.2 ∧ p.2 ≤ l.length))) → (pick ss).1 = -1 ∨ (0 < (pick ss).2 ∧ (pick ss).2 ≤ l.length)
  | [], _ => by right; simp [pick]; omega
  | (k, n) :: r, h => by
    unfold pick
    by_cases h1 : n = -1
    · rw [if_pos h1]; exact .inl rfl
    · rw [if_neg h1]
      by_cases h2 : 0 < n
      · rw [if_pos h2]
        have := (h (k, n) (by simp)).2
        right; simp only at this ⊢; omega
      · rw [if_neg h2]; exact pick_of l hl r (fun p hp => h p (by simp [hp]))
theorem sizes_of (l : List UInt8) (path : Bool) : ∀ p ∈ sizes l path, p.1 ≠ -1 ∧ (p.2 = -1 ∨ (0 ≤ p.2 ∧ p.2 ≤ l.length)) := by
  intro p hp
  have h1 := nameSz_le l
  have h2 := numSz_le l
  have h3 := quotSz_le 34 l
  have h4 := quotSz_le 39 l
  have h5 := pathSz_le l
  have h6 := signSz_le l
  simp only [sizes, List.mem_cons, List.not_mem_nil, or_false] at hp
  rcases hp with rfl | rfl | rfl | rfl | rfl | rfl
  · simp only; omega
  · simp only; omega
  · exact ⟨show (4 : Int) ≠ -1 by decide, h3⟩
  · exact ⟨show (3 : Int) ≠ -1 by decide, h4⟩
  · cases path <;> simp <;> omega
  · simp only; omega
theorem pick_le (l : List UInt8) (path : Bool) (hl : 1 ≤ l.length) : (pick (sizes l path)).1 = -1 ∨ (0 < (pick (sizes l path)).2 ∧ (pick (sizes l path)).2 ≤ l.length) :=
  pick_of l hl _ (sizes_of l path)

theorem noteEnd_le : ∀ (l : List UInt8) (i k : Nat), noteEnd l i = some k → i ≤ k ∧ k + 2 ≤ i + l.length
  | [], _, _, h => by cases h
  | [_], _, _, h => by cases h
  | c :: d :: r, i, k, h => by
    unfold noteEnd at h
    by_cases h1 : c = 42 ∧ d = 47
    · rw [if_pos h1] at h; cases h; simp
    · rw [if_neg h1] at h
      have := noteEnd_le (d :: r) (i + 1) k h
      simp only [List.length_cons] at this ⊢
      omega
theorem blankSz_le (l : List UInt8) : blankSz l = -1 ∨ (0 ≤ blankSz l ∧ blankSz l ≤ l.length) := by
  unfold blankSz
  cases l with
  | nil => right; simp
  | cons c r =>
    simp only
    by_cases h1 : c = 32 ∨ c = 9 ∨ c = 10 ∨ c = 13
    · rw [if_pos h1]; right; simp; omega
    · rw [if_neg h1]
      by_cases h2 : c = 47 ∧ r.head? = some 47
      · rw [if_pos h2]
        have := (spanN_le (fun i => byteAt (c :: r) i != 10) (c :: r).length (by simp)).2
        right; constructor
        · exact Int.natCast_nonneg _
        · exact Int.ofNat_le.2 this
      · rw [if_neg h2]
        by_cases h3 : c = 47 ∧ r.head? = some 42
        · rw [if_pos h3]
          cases h : noteEnd r.tail 0 with
          | none => exact .inl rfl
          | some k =>
            have := noteEnd_le _ _ _ h
            have hr : r.tail.length + 1 = r.length := by
              cases r with
              | nil => simp at h3
              | cons _ _ => simp
            right; simp only [List.length_cons]; push_cast; omega
        · rw [if_neg h3]; right; simp; omega

theorem skipF_ge (s : List UInt8) : ∀ (f i : Nat) (sp fi : Bool), i ≤ (skipF s f i sp fi).to
  | 0, i, _, _ => Nat.le_refl _
  | f + 1, i, sp, fi => by
    unfold skipF
    split
    · exact Nat.le_refl _
    · split
      · exact Nat.le_refl _
      · exact Nat.le_trans (Nat.le_add_right _ _) (skipF_ge s f _ _ _)
theorem skipF_le (s : List UInt8) : ∀ (f i : Nat) (sp fi : Bool), i ≤ s.length → (skipF s f i sp fi).to ≤ s.length
  | 0, i, _, _, h => h
  | f + 1, i, sp, fi, h => by
    unfold skipF
    split
    · exact h
    · split
      · exact h
      · refine skipF_le s f _ _ _ ?_
        have := blankSz_le (s.drop i)
        simp only [List.length_drop] at this
        omega
theorem skip_to (s : List UInt8) (i : Nat) (sp fi : Bool) (h : i ≤ s.length) : i ≤ (skip s i sp fi).to ∧ (skip s i sp fi).to ≤ s.length :=
  ⟨skipF_ge _ _ _ _ _, skipF_le _ _ _ _ _ h⟩
end
section
open Go.RowKit

/-- What a closure over one variable answers, of every number from 1 below n. -/
def Holds (f B : Nat) (q : Nat → Bool) (n : Nat) (w : World) : Prop :=
  ∀ i : Nat, 1 ≤ i → i < n → Calls Try.prog f #[.int .i64 (i : Int), .pointer (some ⟨B, 0, none⟩)] w fun e w' => e = .returned (.bool (q i)) ∧ w' = w

theorem byte_at (s : ByteArray) (i : Nat) (h : i < s.size) : s[i] = byteAt s.data.toList i := by
  symm
  apply byteAt_eq
  rw [List.getElem?_eq_getElem (by rw [size_data]; exact h)]
  rfl

end
section
open Go.RowKit Go.Shelf

theorem empty_of {s : ByteArray} (h : s.size = 0) : s = ⟨#[]⟩ := by
  cases s with | mk d => simp [ByteArray.size] at h; subst h; rfl
theorem isEmpty_false {s : ByteArray} (h : 1 ≤ s.size) : s.toList.isEmpty = false := by
  rw [toList_data]
  have := size_data s
  cases hd : s.data.toList with
  | nil => rw [hd] at this; simp at this; omega
  | cons _ _ => rfl

def nameIs (l : List UInt8) : Bool := decide (l ≠ []) && decide (nameSz l = l.length)
end
end Go.Proofs.Ytkfbhknhjpmomaa
