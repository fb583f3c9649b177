/- How tokens lie in memory; walk of behindInclude. -/
import Derived.Test.YtienjifhkmekcaaDoorLxNext
import Derived.Deep.RegionHeld3
namespace Go.Proofs.YtienjifhkmekcaaDoor
open Go.RowKit Go.Shelf

def encT (t : Tk) : List Value :=
  [.int .i64 t.kind, .string t.text, .bool t.space, .bool t.first, .int .i64 t.file, .int .i64 t.lo, .int .i64 t.hi, .int .i64 t.line, .slice none 0 0, .slice none 0 0, .int .i64 0]
def cellsT (ts : List Tk) : List Value := ts.flatMap encT
theorem encT_length (t : Tk) : (encT t).length = 11 := rfl
theorem cellsT_length (ts : List Tk) : (cellsT ts).length = ts.length * 11 := by
  induction ts with
  | nil => rfl
  | cons x r ih => simp only [cellsT, List.flatMap_cons, List.length_append] at ih ⊢; rw [ih, encT_length]; simp; omega
theorem cellsT_snoc (ts : List Tk) (x : Tk) : cellsT (ts ++ [x]) = cellsT ts ++ encT x := by simp [cellsT]
theorem cellsT_get (ts : List Tk) (j i : Nat) (x : Tk) (v : Value) (h : ts[j]? = some x) (hv : (encT x)[i]? = some v) : (cellsT ts)[j * 11 + i]? = some v := by
  have hi : i < 11 := by have := (List.getElem?_eq_some_iff.1 hv).1; rwa [encT_length] at this
  induction ts generalizing j with
  | nil => simp at h
  | cons y r ih =>
    cases j with
    | zero =>
      simp at h; subst h
      simp only [cellsT, List.flatMap_cons]
      rw [List.getElem?_append_left (by rw [encT_length]; omega)]
      simpa using hv
    | succ j =>
      have := ih j (by simpa using h)
      simp only [cellsT, List.flatMap_cons] at this ⊢
      rw [List.getElem?_append_right (by rw [encT_length]; omega)]
      have e1 : (j + 1) * 11 + i - (encT y).length = j * 11 + i := by rw [encT_length]; omega
      rw [e1]
      exact this

/-- What a slice of tokens holds. -/
def TAt (w : World) (a : Option Addr) (ts : List Tk) : Prop :=
  ts = [] ∨ ∃ b off, a = some ⟨b, off, none⟩ ∧ b < w.heap.size ∧ ∀ (j : Nat) x, ts[j]? = some x → ∀ (i : Nat) v, (encT x)[i]? = some v → w.cell? ⟨b, off + j * 11 + i, none⟩ = some v
theorem TAt.below {w w' : World} {a : Option Addr} {ts : List Tk} (h : TAt w a ts) (hb : Below w.heap.size w w') : TAt w' a ts := by
  rcases h with rfl | ⟨b, off, rfl, hlt, hc⟩
  · exact .inl rfl
  · exact .inr ⟨b, off, rfl, Nat.lt_of_lt_of_le hlt hb.size, fun j x hx i v hv => (hb.cell (p := ⟨b, _, none⟩) hlt).trans (hc j x hx i v hv)⟩
theorem TAt.of_row {w : World} {base : Nat} {v : Value} {ts : List Tk} (h : w.ownsRow base 40 11 v ts.length (cellsT ts)) : ∃ a c, v = .slice a ts.length c ∧ TAt w a ts := by
  rcases h.2 with ⟨rfl, h0⟩ | ⟨g, cap, cur, rfl, hb, hg, hn, hc, hs, ht⟩
  · exact ⟨none, 0, by rw [h0], .inl (List.eq_nil_of_length_eq_zero h0)⟩
  · refine ⟨_, _, rfl, .inr ⟨g, 0, rfl, (Array.getElem?_eq_some_iff.1 hg).1, fun j x hx i v hv => ?_⟩⟩
    have hj : j < ts.length := (List.getElem?_eq_some_iff.1 hx).1
    have hi : i < 11 := by have := (List.getElem?_eq_some_iff.1 hv).1; rwa [encT_length] at this
    have h1 := cellsT_get ts j i x v hx hv
    rw [← ht, List.getElem?_take_of_lt (by omega), Array.getElem?_toList] at h1
    rw [Go.Joins.cell_of_block hg, Nat.zero_add]
    exact h1

def isHash (t : Tk) : Bool := t.first && (t.text.toList == [35])
def isIncl (t : Tk) : Bool := !t.first && (t.text.toList == [105, 110, 99, 108, 117, 100, 101])
/-- Whether tokens end with a line's # and include. -/
def behindT (ts : List Tk) : Bool := decide (2 ≤ ts.length) && isHash (ts.getD (ts.length - 2) ⟨0, ⟨#[]⟩, false, false, 0, 0, 0, 0⟩) && isIncl (ts.getD (ts.length - 1) ⟨0, ⟨#[]⟩, false, false, 0, 0, 0, 0⟩)

end Go.Proofs.YtienjifhkmekcaaDoor
