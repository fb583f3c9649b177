/- How the document's own reads tokens as a tree, as plain functions: what is left of its depth is counted down, what is wrong is an error with its token. -/
import Derived.Test.YtkfbhknhjpmomaaTgA
namespace Go.Proofs.Ytkfbhknhjpmomaa
open Go.RowKit Go.Shelf

/-- The words of types. -/
def baseW (s : List UInt8) : Bool := s == [105, 110, 116] || s == [99, 104, 97, 114] || s == [108, 111, 110, 103] || s == [118, 111, 105, 100]
abbrev wTypedef : List UInt8 := [116, 121, 112, 101, 100, 101, 102]
abbrev wIf : List UInt8 := [105, 102]
abbrev wElse : List UInt8 := [101, 108, 115, 101]
abbrev wWhile : List UInt8 := [119, 104, 105, 108, 101]
abbrev wReturn : List UInt8 := [114, 101, 116, 117, 114, 110]
/-- Names, and whether they are types'; the last one first. -/
abbrev En := List (List UInt8 × Bool)
def typN : En → List UInt8 → Bool
  | [], _ => false
  | x :: r, s => if x.1 = s then x.2 else typN r s
/-- A token's text. -/
def txtT (L : List Tk) (i : Nat) : List UInt8 := match L[i]? with
  | some t => t.text.data.toList
  | none => []

section
variable (L : List Tk)
def typT (e : En) (i : Nat) : Bool := baseW (wordT L i) || typN e (wordT L i)
section
variable (X : Nat → Nat → Got (Nd × Nat))
def exLoop (l : Nat) : Nat → Nd → Nat → Got (Nd × Nat)
  | 0, _, i => .error (0, i)
  | g + 1, a, i => if levelW (wordT L i) < l then .ok (a, i) else match X (rightW (levelW (wordT L i))) (i + 1) with
    | .error x => .error x
    | .ok (b, k) => exLoop l g (.mk 13 (i : Int) [a, b]) k
def argLoop : Nat → List Nd → Nat → Got (List Nd × Nat)
  | 0, _, i => .error (0, i)
  | g + 1, ks, i =>
    if wordT L i = [41] then .ok (ks, i)
    else if ks.isEmpty = false ∧ wordT L i ≠ [44] then .error (2, i)
    else match X 2 (if ks.isEmpty = true then i else i + 1) with
      | .error x => .error x
      | .ok (x, k) => argLoop g (ks ++ [x]) k
def postLoop : Nat → Nd → Nat → Got (Nd × Nat)
  | 0, _, i => .error (0, i)
  | g + 1, a, i =>
    if wordT L i = [40] then match argLoop L X (L.length + 1) [] (i + 1) with
      | .error x => .error x
      | .ok (ks, j) => postLoop g (.mk 14 (-1) (a :: ks)) (j + 1)
    else if wordT L i = [91] then match X 1 (i + 1) with
      | .error x => .error x
      | .ok (x, k) => if wordT L k = [93] then postLoop g (.mk 15 (-1) [a, x]) (k + 1) else .error (2, k)
    else .ok (a, i)
def postR (i : Nat) : Got (Nd × Nat) :=
  if L.length ≤ i then .error (9, i)
  else if wordT L i = [40] then match X 1 (i + 1) with
    | .error x => .error x
    | .ok (a, k) => if wordT L k = [41] then postLoop L X (L.length + 1) a (k + 1) else .error (2, k)
  else if kindT L i = 2 ∨ kindT L i = 3 ∨ kindT L i = 4 then postLoop L X (L.length + 1) (.mk 11 (i : Int) []) (i + 1)
  else if nameT L i = true then postLoop L X (L.length + 1) (.mk 10 (i : Int) []) (i + 1)
  else .error (2, i)
end
/-- What is left of the depth; 0 signs between, 1 a part with signs ahead; the level; where. -/
def exR : Nat → Nat → Nat → Nat → Got (Nd × Nat)
  | 0, _, _, i => .error (10, i)
  | m + 1, 0, l, i => match exR m 1 0 i with
    | .error x => .error x
    | .ok (a, k) => exLoop L (fun l i => exR m 0 l i) l (L.length + 1) a k
  | m + 1, _, _, i =>
    if aheadW (wordT L i) = true then match exR m 1 0 (i + 1) with
      | .error x => .error x
      | .ok (x, k) => .ok (.mk 12 (i : Int) [x], k)
    else postR L (fun l i => exR m 0 l i) i
def starF : Nat → Nat → Nat
  | 0, i => i
  | g + 1, i => if wordT L i = [42] then starF g (i + 1) else i
section
variable (X : Nat → Nat → Got (Nd × Nat))
/-- A declarator whose name is at j. -/
def dclJ (e : En) (j : Nat) (typ : Bool) : Got (Nd × Nat × En) :=
  if nameT L j = false then .error (2, j)
  else if wordT L (j + 1) = [91] then match X 1 (j + 2) with
    | .error x => .error x
    | .ok (x, k) => if wordT L k = [93] then .ok (.mk 4 (j : Int) [x], k + 1, (txtT L j, typ) :: e) else .error (2, k)
  else .ok (.mk 4 (j : Int) [], j + 1, (txtT L j, typ) :: e)
def dclR (e : En) (i : Nat) (typ : Bool) : Got (Nd × Nat × En) := dclJ L X e (starF L (L.length + 1) i) typ
/-- What follows `=`. -/
def initR (typ : Bool) (i : Nat) (n : Nd) : Got (Nd × Nat) :=
  if typ = false ∧ wordT L i = [61] then match X 2 (i + 1) with
    | .error x => .error x
    | .ok (x, k) => .ok (.mk n.kind n.tok (n.kids ++ [x]), k)
  else .ok (n, i)
def restF (typ : Bool) : Nat → En → Nat → List Nd → Nd → Got (List Nd × Nat × En)
  | 0, _, i, _, _ => .error (0, i)
  | g + 1, e, i, ds, n => match initR L X typ i n with
    | .error x => .error x
    | .ok (n', j) =>
      if wordT L j = [44] then match dclR L X e (j + 1) typ with
        | .error x => .error x
        | .ok (n2, k, e2) => restF typ g e2 k (ds ++ [n']) n2
      else if wordT L j = [59] then .ok (ds ++ [n'], j + 1, e) else .error (2, j)
def restR (typ : Bool) (e : En) (i : Nat) (ds : List Nd) (n : Nd) : Got (Nd × Nat × En) := match restF L X typ (L.length + 1) e i ds n with
  | .error x => .error x
  | .ok (ds', k, e') => .ok (.mk 2 (-1) ds', k, e')
def declJ (e : En) (j : Nat) (typ : Bool) : Got (Nd × Nat × En) :=
  if typT L e j = false then .error (2, j)
  else match dclR L X e (j + 1) typ with
    | .error x => .error x
    | .ok (n, k, e2) => restR L X typ e2 k [.mk 16 (j : Int) []] n
def declR (e : En) (i : Nat) : Got (Nd × Nat × En) :=
  if wordT L i = wTypedef then declJ L X e (i + 1) true else declJ L X e i false
/-- Parameters: those that were read, where, in which surroundings. -/
def prmF : Nat → En → Nat → List Nd → Got (List Nd × Nat × En)
  | 0, _, i, _ => .error (0, i)
  | g + 1, e, i, ks =>
    if wordT L i = [41] then .ok (ks, i, e)
    else if ks.isEmpty = false ∧ wordT L i ≠ [44] then .error (2, i)
    else if typT L e (if ks.isEmpty = true then i else i + 1) = false then .error (2, if ks.isEmpty = true then i else i + 1)
    else match dclR L X e ((if ks.isEmpty = true then i else i + 1) + 1) false with
      | .error x => .error x
      | .ok (y, k, e2) => prmF g e2 k (ks ++ [.mk 2 (-1) [.mk 16 ((if ks.isEmpty = true then i else i + 1 : Nat) : Int) [], y]])
def outR (B : En → Nat → Got (Nd × Nat × En)) (e : En) (i : Nat) : Got (Nd × Nat × En) :=
  if wordT L i = wTypedef then declR L X e i
  else if typT L e i = false then .error (2, i)
  else match dclR L X e (i + 1) false with
    | .error x => .error x
    | .ok (n, k, e2) =>
      if n.kids.isEmpty = false ∨ wordT L k ≠ [40] then restR L X false e2 k [.mk 16 (i : Int) []] n
      else match prmF L X (L.length + 1) e2 (k + 1) [] with
        | .error x => .error x
        | .ok (ps, j, e3) => match B e3 (j + 1) with
          | .error x => .error x
          | .ok (b, k3, _) => .ok (.mk 3 (-1) ([.mk 16 (i : Int) [], n] ++ ps ++ [b]), k3, e2)
end
def blkLoop (S : En → Nat → Got (Nd × Nat × En)) : Nat → En → Nat → List Nd → Got (List Nd × Nat)
  | 0, _, i, _ => .error (0, i)
  | g + 1, e, i, ks =>
    if wordT L i = [125] then .ok (ks, i)
    else if L.length ≤ i then .error (9, i)
    else match S e i with
      | .error x => .error x
      | .ok (x, k, e2) => blkLoop S g e2 k (ks ++ [x])
/-- An expression, and `;` behind it; or `;` alone. -/
def semiR (X : Nat → Nat → Got (Nd × Nat)) (kind : Int) (i : Nat) : Got (Nd × Nat) :=
  if wordT L i = [59] then .ok (.mk kind (-1) [], i + 1)
  else match X 1 i with
    | .error x => .error x
    | .ok (x, k) => if wordT L k = [59] then .ok (.mk kind (-1) [x], k + 1) else .error (2, k)
/-- What is left of the depth; 0 a statement, 1 a block. -/
def stR : Nat → Nat → En → Nat → Got (Nd × Nat × En)
  | 0, _, _, i => .error (10, i)
  | m + 1, 1, e, i =>
    if wordT L i ≠ [123] then .error (2, i)
    else match blkLoop L (fun e i => stR m 0 e i) (L.length + 1) e (i + 1) [] with
      | .error x => .error x
      | .ok (ks, k) => .ok (.mk 5 (-1) ks, k + 1, e)
  | m + 1, _, e, i =>
    if wordT L i = [123] then match stR m 1 e i with
      | .error x => .error x
      | .ok (n, k, _) => .ok (n, k, e)
    else if wordT L i = wIf ∨ wordT L i = wWhile then
      if wordT L (i + 1) ≠ [40] then .error (2, i + 1)
      else match exR L m 0 1 (i + 2) with
        | .error x => .error x
        | .ok (x, k) =>
          if wordT L k ≠ [41] then .error (2, k)
          else match stR m 0 e (k + 1) with
            | .error x => .error x
            | .ok (y, j, _) =>
              if wordT L i = wIf ∧ wordT L j = wElse then match stR m 0 e (j + 1) with
                | .error x => .error x
                | .ok (z, j2, _) => .ok (.mk 6 (-1) [x, y, z], j2, e)
              else .ok (.mk (if wordT L i = wIf then 6 else 7) (-1) [x, y], j, e)
    else if wordT L i = wReturn then match semiR L (fun l i => exR L m 0 l i) 8 (i + 1) with
      | .error x => .error x
      | .ok (n, k) => .ok (n, k, e)
    else if wordT L i = wTypedef ∨ typT L e i = true then declR L (fun l i => exR L m 0 l i) e i
    else match semiR L (fun l i => exR L m 0 l i) 9 i with
      | .error x => .error x
      | .ok (n, k) => .ok (n, k, e)
def uniLoop : Nat → En → Nat → List Nd → Got (List Nd)
  | 0, _, i, _ => .error (0, i)
  | g + 1, e, i, ks =>
    if L.length ≤ i then .ok ks
    else match outR L (fun l i => exR L 30 0 l i) (fun e i => stR L 30 1 e i) e i with
      | .error x => .error x
      | .ok (x, k, e2) => uniLoop g e2 k (ks ++ [x])
def parsR : Got Nd := match uniLoop L (L.length + 1) [] 0 [] with
  | .error x => .error x
  | .ok ks => .ok (.mk 1 (-1) ks)
end

/-- What is read ends behind its begin, and within the text. -/
def Adv (L : List Tk) (X : Nat → Nat → Got (Nd × Nat)) : Prop := ∀ l i n k, 1 ≤ l → X l i = .ok (n, k) → i < k ∧ k ≤ L.length
def AdvS (L : List Tk) (S : En → Nat → Got (Nd × Nat × En)) : Prop := ∀ e i n k e', S e i = .ok (n, k, e') → i < k ∧ k ≤ L.length
theorem wrd_lt {L : List Tk} {i : Nat} {s : List UInt8} (h : wordT L i = s) (hs : s ≠ []) : i < L.length := by
  apply Classical.byContradiction
  intro hn
  unfold wordT at h
  rw [List.getElem?_eq_none (by omega)] at h
  exact hs h.symm
theorem lev_lt {L : List Tk} {i l : Nat} (h : ¬ levelW (wordT L i) < l) (hl : 1 ≤ l) : i < L.length := by
  apply Classical.byContradiction
  intro hn
  have e : wordT L i = [] := by unfold wordT; rw [List.getElem?_eq_none (by omega)]
  rw [e] at h
  exact h (by show 0 < l; omega)
theorem nam_lt {L : List Tk} {i : Nat} (h : nameT L i = true) : i < L.length := by
  apply Classical.byContradiction
  intro hn
  unfold nameT at h
  rw [List.getElem?_eq_none (by omega)] at h
  cases h
theorem right_pos (s : Nat) : 1 ≤ rightW s ∨ s = 0 := by unfold rightW; split <;> omega
theorem exLoop_adv {L : List Tk} {X : Nat → Nat → Got (Nd × Nat)} (hX : Adv L X) {l : Nat} (hl : 1 ≤ l) : ∀ (g : Nat) (a : Nd) (i : Nat) (n : Nd) (k : Nat), exLoop L X l g a i = .ok (n, k) → i ≤ L.length → i ≤ k ∧ k ≤ L.length
  | 0, a, i, n, k, h, _ => by simp [exLoop] at h
  | g + 1, a, i, n, k, h, hi => by
    simp only [exLoop] at h
    split at h
    · simp at h; omega
    · rename_i hv
      split at h
      · simp at h
      · rename_i b k1 hx
        have h1 := hX _ _ _ _ (by unfold rightW; split <;> omega) hx
        have h2 := exLoop_adv hX hl g _ _ _ _ h h1.2
        omega
theorem argLoop_adv {L : List Tk} {X : Nat → Nat → Got (Nd × Nat)} (hX : Adv L X) : ∀ (g : Nat) (ks : List Nd) (i : Nat) (n : List Nd) (k : Nat), argLoop L X g ks i = .ok (n, k) → i ≤ k ∧ k < L.length
  | 0, a, i, n, k, h => by simp [argLoop] at h
  | g + 1, a, i, n, k, h => by
    simp only [argLoop] at h
    split at h
    · rename_i hw
      simp at h
      have := wrd_lt hw (by simp)
      omega
    · split at h
      · simp at h
      · split at h
        · simp at h
        · rename_i b k1 hx
          have h1 := hX _ _ _ _ (by omega) hx
          have h2 := argLoop_adv hX g _ _ _ _ h
          split at h1 <;> omega
theorem postLoop_adv {L : List Tk} {X : Nat → Nat → Got (Nd × Nat)} (hX : Adv L X) : ∀ (g : Nat) (a : Nd) (i : Nat) (n : Nd) (k : Nat), postLoop L X g a i = .ok (n, k) → i ≤ L.length → i ≤ k ∧ k ≤ L.length
  | 0, a, i, n, k, h, _ => by simp [postLoop] at h
  | g + 1, a, i, n, k, h, hi => by
    simp only [postLoop] at h
    split at h
    · split at h
      · simp at h
      · rename_i ks j hx
        have h1 := argLoop_adv hX _ _ _ _ _ hx
        have h2 := postLoop_adv hX g _ _ _ _ h (by omega)
        omega
    · split at h
      · split at h
        · simp at h
        · rename_i x k1 hx
          have h1 := hX _ _ _ _ (by omega) hx
          split at h
          · rename_i hw
            have := wrd_lt hw (by simp)
            have h2 := postLoop_adv hX g _ _ _ _ h (by omega)
            omega
          · simp at h
      · simp at h; omega
theorem postR_adv {L : List Tk} {X : Nat → Nat → Got (Nd × Nat)} (hX : Adv L X) (i : Nat) (n : Nd) (k : Nat) (h : postR L X i = .ok (n, k)) : i < k ∧ k ≤ L.length := by
  unfold postR at h
  split at h
  · simp at h
  · split at h
    · split at h
      · simp at h
      · rename_i a k1 hx
        have h1 := hX _ _ _ _ (by omega) hx
        split at h
        · rename_i hw
          have := wrd_lt hw (by simp)
          have h2 := postLoop_adv hX _ _ _ _ _ h (by omega)
          omega
        · simp at h
    · split at h
      · have h2 := postLoop_adv hX _ _ _ _ _ h (by omega)
        omega
      · split at h
        · have h2 := postLoop_adv hX _ _ _ _ _ h (by omega)
          omega
        · simp at h
theorem exR_adv (L : List Tk) : ∀ m, Adv L (fun l i => exR L m 0 l i) ∧ ∀ l i n k, exR L m 1 l i = .ok (n, k) → i < k ∧ k ≤ L.length
  | 0 => ⟨fun l i n k _ h => by simp [exR] at h, fun l i n k h => by simp [exR] at h⟩
  | m + 1 => by
    obtain ⟨hE, hU⟩ := exR_adv L m
    constructor
    · intro l i n k hl h
      simp only [exR] at h
      split at h
      · simp at h
      · rename_i a k1 hx
        have h1 := hU _ _ _ _ hx
        have h2 := exLoop_adv hE hl _ _ _ _ _ h h1.2
        omega
    · intro l i n k h
      simp only [exR] at h
      split at h
      · split at h
        · simp at h
        · rename_i x k1 hx
          have h1 := hU _ _ _ _ hx
          simp at h
          omega
      · exact postR_adv hE _ _ _ h
end Go.Proofs.Ytkfbhknhjpmomaa
