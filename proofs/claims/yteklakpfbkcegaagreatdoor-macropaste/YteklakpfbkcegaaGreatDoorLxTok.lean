/- How tokens lie in memory; walk of behindInclude. -/
import Derived.Test.YteklakpfbkcegaaGreatDoorLxNext
import Derived.Deep.RegionHeld3
namespace Go.Proofs.YteklakpfbkcegaaGreatDoor
open Go.RowKit Go.Shelf

def encT (t : Tk) : List Value :=
  [.int .i64 t.kind, .string t.text, .bool t.space, .bool t.first, .int .i64 t.file, .int .i64 t.lo, .int .i64 t.hi, .int .i64 t.line, .slice none 0 0, .slice none 0 0, .int .i64 0]
def cellsT (ts : List Tk) : List Value := ts.flatMap encT
theorem encT_length (t : Tk) : (encT t).length = 11 := rfl
theorem cellsT_length (ts : List Tk) : (cellsT ts).length = ts.length * 11 := by
  induction ts with
  | nil => rfl
  | cons x r ih => simp only [cellsT, List.flatMap_cons, List.length_append] at ih ⊢; rw [ih, encT_length]; simp; omega
theorem cellsT_snoc (ts : List Tk) (x : Tk) : cellsT (ts ++ [x]) = cellsT ts ++ encT x := by simp [cellsT]
theorem cellsT_get (ts : List Tk) (j i : Nat) (x : Tk) (v : Value) (h : ts[j]? = some x) (hv : (encT x)[i]? = some v) : (cellsT ts)[j * 11 + i]? = some v := by
  have hi : i < 11 := by have := (List.getElem?_eq_some_iff.1 hv).1; rwa [encT_length] at this
  induction ts generalizing j with
  | nil => simp at h
  | cons y r ih =>
    cases j with
    | zero =>
      simp at h; subst h
      simp only [cellsT, List.flatMap_cons]
      rw [List.getElem?_append_left (by rw [encT_length]; omega)]
      simpa using hv
    | succ j =>
      have := ih j (by simpa using h)
      simp only [cellsT, List.flatMap_cons] at this ⊢
      rw [List.getElem?_append_right (by rw [encT_length]; omega)]
      have e1 : (j + 1) * 11 + i - (encT y).length = j * 11 + i := by rw [encT_length]; omega
      rw [e1]
      exact this

/-- What a slice of tokens holds. -/
def TAt (w : World) (a : Option Addr) (ts : List Tk) : Prop :=
  ts = [] ∨ ∃ b off, a = some ⟨b, off, none⟩ ∧ b < w.heap.size ∧ ∀ (j : Nat) x, ts[j]? = some x → ∀ (i : Nat) v, (encT x)[i]? = some v → w.cell? ⟨b, off + j * 11 + i, none⟩ = some v
theorem TAt.below {w w' : World} {a : Option Addr} {ts : List Tk} (h : TAt w a ts) (hb : Below w.heap.size w w') : TAt w' a ts := by
  rcases h with rfl | ⟨b, off, rfl, hlt, hc⟩
  · exact .inl rfl
  · exact .inr ⟨b, off, rfl, Nat.lt_of_lt_of_le hlt hb.size, fun j x hx i v hv => (hb.cell (p := ⟨b, _, none⟩) hlt).trans (hc j x hx i v hv)⟩
theorem TAt.of_row {w : World} {base : Nat} {v : Value} {ts : List Tk} (h : w.ownsRow base 43 11 v ts.length (cellsT ts)) : ∃ a c, v = .slice a ts.length c ∧ TAt w a ts := by
  rcases h.2 with ⟨rfl, h0⟩ | ⟨g, cap, cur, rfl, hb, hg, hn, hc, hs, ht⟩
  · exact ⟨none, 0, by rw [h0], .inl (List.eq_nil_of_length_eq_zero h0)⟩
  · refine ⟨_, _, rfl, .inr ⟨g, 0, rfl, (Array.getElem?_eq_some_iff.1 hg).1, fun j x hx i v hv => ?_⟩⟩
    have hj : j < ts.length := (List.getElem?_eq_some_iff.1 hx).1
    have hi : i < 11 := by have := (List.getElem?_eq_some_iff.1 hv).1; rwa [encT_length] at this
    have h1 := cellsT_get ts j i x v hx hv
    rw [← ht, List.getElem?_take_of_lt (by omega), Array.getElem?_toList] at h1
    rw [Go.Joins.cell_of_block hg, Nat.zero_add]
    exact h1

def isHash (t : Tk) : Bool := t.first && (t.text.toList == [35])
def isIncl (t : Tk) : Bool := !t.first && (t.text.toList == [105, 110, 99, 108, 117, 100, 101])
/-- Whether tokens end with a line's # and include. -/
def behindT (ts : List Tk) : Bool := decide (2 ≤ ts.length) && isHash (ts.getD (ts.length - 2) ⟨0, ⟨#[]⟩, false, false, 0, 0, 0, 0⟩) && isIncl (ts.getD (ts.length - 1) ⟨0, ⟨#[]⟩, false, false, 0, 0, 0, 0⟩)

set_option maxRecDepth 100000 in
set_option maxHeartbeats 2000000 in
theorem behindInclude_any (a : Option Addr) (c : Nat) (ts : List Tk) (w : World) (hT : TAt w a ts) (hl : ts.length ≤ 1048576) :
    Calls Tryz.prog 66 #[.slice a ts.length c] w fun e w' => e = .returned (.bool (behindT ts)) ∧ Below w.heap.size w w' := by
  by_cases h2 : 2 ≤ ts.length
  · obtain ⟨m, hm⟩ : ∃ m, ts.length = m + 2 := ⟨ts.length - 2, by omega⟩
    rcases hT with rfl | ⟨b, off, rfl, hb, hc⟩
    · simp at h2
    have hx0 : ts[m]? = some ts[m] := List.getElem?_eq_getElem (by omega)
    have hx1 : ts[m + 1]? = some ts[m + 1] := List.getElem?_eq_getElem (by omega)
    have hc0 := hc m _ hx0
    have hc1 := hc (m + 1) _ hx1
    have HE : Hid (behindT ts = (isHash ts[m] && isIncl ts[m + 1])) := by
      show _ = _
      unfold behindT
      rw [decide_eq_true h2, Bool.true_and, show ts.length - 2 = m by omega, show ts.length - 1 = m + 1 by omega]
      simp [List.getD, hx0, hx1]
    rw [hm] at hl ⊢
    generalize ts[m] = x at hc0 HE
    generalize ts[m + 1] = y at hc1 HE
    clear hc hx0 hx1 h2 hm
    obtain ⟨k0, t0, s0, f0, i0, l0, r0, n0⟩ := x
    obtain ⟨k1, t1, s1, f1, i1, l1, r1, n1⟩ := y
    have a0 := hc0 0 _ rfl
    have a1 := hc0 1 _ rfl
    have a2 := hc0 2 _ rfl
    have a3 := hc0 3 _ rfl
    have a4 := hc0 4 _ rfl
    have a5 := hc0 5 _ rfl
    have a6 := hc0 6 _ rfl
    have a7 := hc0 7 _ rfl
    have a8 := hc0 8 _ rfl
    have a9 := hc0 9 _ rfl
    have a10 := hc0 10 _ rfl
    have b0 := hc1 0 _ rfl
    have b1 := hc1 1 _ rfl
    have b2 := hc1 2 _ rfl
    have b3 := hc1 3 _ rfl
    have b4 := hc1 4 _ rfl
    have b5 := hc1 5 _ rfl
    have b6 := hc1 6 _ rfl
    have b7 := hc1 7 _ rfl
    have b8 := hc1 8 _ rfl
    have b9 := hc1 9 _ rfl
    have b10 := hc1 10 _ rfl
    simp only [Nat.add_zero] at a0 b0
    clear hc0 hc1
    push_cast
    have hm0 : (0 : Int) ≤ (m : Int) := by omega
    have hw0 : IntKind.i64.wrap ((m : Int) + 2 - 2) = (m : Int) := by rw [IntKind.wrap_i64]; omega
    have hw1 : IntKind.i64.wrap ((m : Int) + 2 - 1) = (m : Int) + 1 := by rw [IntKind.wrap_i64]; omega
    go_enter Tryz.func66, Tryz.ntmps66
    go_wp2_with fail
    go_region
    all_goals go_wp2
    all_goals go_ret
    all_goals (refine ⟨ret_bool ?_, by repeat' (first | exact Below.refl _ _ | apply Below.drew | apply Below.alloc | simp)⟩; rw [HE.out]; simp_all [isHash, isIncl])
  · have h3 : (ts.length : Int) < 2 := by omega
    have HE : Hid (behindT ts = false) := by show _ = _; unfold behindT; rw [decide_eq_false h2]; rfl
    clear h2 hT
    go_enter Tryz.func66, Tryz.ntmps66
    go_wp2
    go_ret
    exact ⟨ret_bool HE.out.symm, Below.refl _ _⟩

theorem Tokens1_any (O : Nat) (a : Option Addr) (c : Nat) (ts : List Tk) (w : World) (hO : w.cell? ⟨O, 0, none⟩ = some (.slice a ts.length c)) (hT : TAt w a ts) (hl : ts.length ≤ 1048576) :
    Calls Tryz.prog 65 #[.pointer (some ⟨O, 0, none⟩)] w fun e w' => e = .returned (.bool (behindT ts)) ∧ Below w.heap.size w w' := by
  have HB := hid (behindInclude_any a c ts w hT hl)
  clear hT
  go_enter Tryz.func65, Tryz.ntmps65
  go_wp2_with (go_at_call 66; refine HB.out.mono ?_; rintro e w1 ⟨rfl, hb1⟩)
  go_ret
  exact ⟨rfl, hb1⟩
end Go.Proofs.YteklakpfbkcegaaGreatDoor
