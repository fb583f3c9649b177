/- What names mean, as plain functions: frames of names, the innermost one apart. -/
import Derived.Test.YtkfbhknhjpmomaaScPlain
namespace Go.Proofs.Ytkfbhknhjpmomaa
open Go.RowKit Go.Shelf
/-- Names and the tokens that made them; the last one first. -/
abbrev Fr := List (List UInt8 × Nat)
def lookF : Fr → List UInt8 → Option Nat
  | [], _ => none
  | x :: r, s => if x.1 = s then some x.2 else lookF r s
/-- From the innermost one outwards. -/
def findS : List Fr → List UInt8 → Option Nat
  | [], _ => none
  | f :: r, s => match lookF f s with
    | some t => some t
    | none => findS r s
abbrev GotB := Except (Int × Nat) (Fr × List (Nat × Nat))
def thenR (x : GotB) (g : Fr → GotB) : GotB := match x with
  | .error y => .error y
  | .ok (f, b) => match g f with
    | .error y => .error y
    | .ok (f', b') => .ok (f', b ++ b')
/-- What is made inside stays there. -/
def keepF (f : Fr) (x : GotB) : GotB := match x with
  | .error y => .error y
  | .ok (_, b) => .ok (f, b)
section
variable (L : List Tk)
def usR (tk : Nat) (f : Fr) (fs : List Fr) : GotB := match findS (f :: fs) (txtT L tk) with
  | some d => .ok (f, [(tk, d)])
  | none => .error (6, tk)
def mkR (tk : Nat) (f : Fr) : GotB := match lookF f (txtT L tk) with
  | some _ => .error (7, tk)
  | none => .ok ((txtT L tk, tk) :: f, [(tk, tk)])
mutual
/-- A node, in frame f, with frames fs around it. -/
def rsN : Nd → Fr → List Fr → GotB
  | .mk kd tk ks, f, fs =>
    if kd = 4 then thenR (mkR L tk.toNat f) (fun f' => rsL ks f' fs)
    else if kd = 10 then thenR (usR L tk.toNat f fs) (fun f' => rsL ks f' fs)
    else if kd = 16 then (if keyW (txtT L tk.toNat) = true then rsL ks f fs else thenR (usR L tk.toNat f fs) (fun f' => rsL ks f' fs))
    else if kd = 3 then rsF ks f fs
    else if kd = 5 then keepF f (rsL ks [] (f :: fs))
    else rsL ks f fs
def rsL : List Nd → Fr → List Fr → GotB
  | [], f, _ => .ok (f, [])
  | n :: r, f, fs => thenR (rsN n f fs) (fun f' => rsL r f' fs)
/-- A function's kids. -/
def rsF : List Nd → Fr → List Fr → GotB
  | t :: n :: r, f, fs => thenR (thenR (rsN t f fs) (fun f' => rsN n f' fs)) (fun f' => keepF f' (rsP r [] (f' :: fs)))
  | _, f, _ => .ok (f, [])
/-- Its parameters and its block. -/
def rsP : List Nd → Fr → List Fr → GotB
  | [], f, _ => .ok (f, [])
  | n :: r, f, fs => if r.isEmpty = true then rsB n f fs else thenR (rsN n f fs) (fun f' => rsP r f' fs)
/-- What a block has. -/
def rsB : Nd → Fr → List Fr → GotB
  | .mk _ _ ks, f, fs => rsL ks f fs
end
/-- All of a tree. -/
def resR (n : Nd) : Except (Int × Nat) (List (Nat × Nat)) := match rsN L n [] [] with
  | .error y => .error y
  | .ok (_, b) => .ok b
end
theorem rsL_nil (L : List Tk) (f : Fr) (fs : List Fr) : rsL L [] f fs = .ok (f, []) := by rw [rsL]
theorem rsL_cons (L : List Tk) (n : Nd) (r : List Nd) (f : Fr) (fs : List Fr) : rsL L (n :: r) f fs = thenR (rsN L n f fs) (fun f' => rsL L r f' fs) := by rw [rsL]
theorem rsN_mk (L : List Tk) (kd tk : Int) (ks : List Nd) (f : Fr) (fs : List Fr) : rsN L (.mk kd tk ks) f fs =
    if kd = 4 then thenR (mkR L tk.toNat f) (fun f' => rsL L ks f' fs)
    else if kd = 10 then thenR (usR L tk.toNat f fs) (fun f' => rsL L ks f' fs)
    else if kd = 16 then (if keyW (txtT L tk.toNat) = true then rsL L ks f fs else thenR (usR L tk.toNat f fs) (fun f' => rsL L ks f' fs))
    else if kd = 3 then rsF L ks f fs
    else if kd = 5 then keepF f (rsL L ks [] (f :: fs))
    else rsL L ks f fs := by rw [rsN]
theorem rsF_two (L : List Tk) (t n : Nd) (r : List Nd) (f : Fr) (fs : List Fr) : rsF L (t :: n :: r) f fs = thenR (thenR (rsN L t f fs) (fun f' => rsN L n f' fs)) (fun f' => keepF f' (rsP L r [] (f' :: fs))) := by rw [rsF]
theorem rsP_cons (L : List Tk) (n : Nd) (r : List Nd) (f : Fr) (fs : List Fr) : rsP L (n :: r) f fs = if r.isEmpty = true then rsB L n f fs else thenR (rsN L n f fs) (fun f' => rsP L r f' fs) := by rw [rsP]
theorem rsB_mk (L : List Tk) (kd tk : Int) (ks : List Nd) (f : Fr) (fs : List Fr) : rsB L (.mk kd tk ks) f fs = rsL L ks f fs := by rw [rsB]
theorem thenR_assoc (x : GotB) (g h : Fr → GotB) : thenR (thenR x g) h = thenR x (fun f => thenR (g f) h) := by
  rcases x with y | ⟨f, b⟩
  · rfl
  · simp only [thenR]
    rcases g f with y | ⟨f', b'⟩
    · rfl
    · dsimp only
      rcases h f' with y | ⟨f2, b2⟩
      · rfl
      · simp
theorem thenR_ok (x : GotB) : thenR x (fun f => .ok (f, [])) = x := by
  rcases x with y | ⟨f, b⟩
  · rfl
  · simp [thenR]
/-- The kids ahead of the last one, and that one. -/
theorem rsP_snoc (L : List Tk) : ∀ (ps : List Nd) (b : Nd) (f : Fr) (fs : List Fr), rsP L (ps ++ [b]) f fs = thenR (rsL L ps f fs) (fun f' => rsB L b f' fs)
  | [], b, f, fs => by
    rw [List.nil_append, rsP_cons, rsL_nil]
    simp only [List.isEmpty_nil, if_true, thenR]
    rcases rsB L b f fs with y | ⟨f2, b2⟩ <;> rfl
  | n :: ps, b, f, fs => by
    rw [List.cons_append, rsP_cons, rsL_cons, thenR_assoc]
    rw [if_neg (by simp)]
    congr 1
    funext f'
    exact rsP_snoc L ps b f' fs
theorem rsL_two (L : List Tk) (t n : Nd) (f : Fr) (fs : List Fr) : rsL L [t, n] f fs = thenR (rsN L t f fs) (fun f' => rsN L n f' fs) := by
  rw [rsL_cons]
  congr 1
  funext f'
  rw [rsL_cons]
  simp only [rsL_nil]
  exact thenR_ok _
mutual
/-- What stands in a tree for the names: within the text; a function has its kids. -/
def wfN (m : Nat) : Nd → Prop
  | .mk kd tk ks => ((kd = 4 ∨ kd = 10 ∨ kd = 16) → 0 ≤ tk ∧ tk < (m : Int)) ∧ (kd = 3 → 3 ≤ ks.length) ∧ wfL m ks
def wfL (m : Nat) : List Nd → Prop
  | [] => True
  | n :: r => wfN m n ∧ wfL m r
end
theorem wfN_mk {m : Nat} {kd tk : Int} {ks : List Nd} : wfN m (.mk kd tk ks) ↔ ((kd = 4 ∨ kd = 10 ∨ kd = 16) → 0 ≤ tk ∧ tk < (m : Int)) ∧ (kd = 3 → 3 ≤ ks.length) ∧ wfL m ks := by rw [wfN]
theorem wfL_cons {m : Nat} {n : Nd} {r : List Nd} : wfL m (n :: r) ↔ wfN m n ∧ wfL m r := by rw [wfL]
theorem wfL_mem {m : Nat} : ∀ {ks : List Nd}, wfL m ks ↔ ∀ n ∈ ks, wfN m n
  | [] => by simp [wfL]
  | n :: r => by rw [wfL_cons, wfL_mem (ks := r)]; simp
end Go.Proofs.Ytkfbhknhjpmomaa
