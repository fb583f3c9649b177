/- How macros lie in memory. · The library's Clone at definitions. · The library's Grow and Concat at definitions. · The library's Concat at definitions: some, and one more. · Walk of Find. · Walk of Same. · Walk of the library's EqualFunc at tokens, and of Same. · Walk of Define. · The library's DeleteFunc at definitions of a name, and Undef. · Plain facts of Define and Undef: what is defined twice is defined once. -/
import Derived.Test.YtkfbhknhjpmomaaLxC
import Derived.Test.YtkfbhknhjpmomaaRxWord
import Derived.Lib.SlBy
import Derived.Test.YtkfbhknhjpmomaaMcShelf
import Derived.Test.YtkfbhknhjpmomaaMcShelfB
import Derived.Laws.AppendOwn
import Derived.Test.YtkfbhknhjpmomaaStepApp
import Derived.Maps.AppendAt
import Derived.OwnWalk
import Derived.Shelf.SlicesQ.IndexFunc
import Derived.Lib.SliceRun
import Derived.Deep.RegionHeld3
import Derived.Laws.EntriesVeiled
import Derived.Shelf.Slices.Empties2
import Derived.Test.YtkfbhknhjpmomaaLater
import Derived.Laws.IdiomCopy
namespace Go.Proofs.Ytkfbhknhjpmomaa
section
open Go.RowKit Go.Shelf

/-- What a slice of strings holds. -/
def StAt (w : World) (a : Option Addr) (ss : List ByteArray) : Prop :=
  ss = [] ∨ ∃ b off, a = some ⟨b, off, none⟩ ∧ b < w.heap.size ∧ ∀ (j : Nat) x, ss[j]? = some x → w.cell? ⟨b, off + j, none⟩ = some (.string x)
theorem StAt.below {w w' : World} {a : Option Addr} {ss : List ByteArray} (h : StAt w a ss) (hb : Below w.heap.size w w') : StAt w' a ss := by
  rcases h with rfl | ⟨b, off, rfl, hlt, hc⟩
  · exact .inl rfl
  · exact .inr ⟨b, off, rfl, Nat.lt_of_lt_of_le hlt hb.size, fun j x hx => (hb.cell (p := ⟨b, _, none⟩) hlt).trans (hc j x hx)⟩
/-- A definition's values, as a call hands it on. -/
structure Mv where
  name : ByteArray
  call : Bool
  pa : Option Addr
  pn : Nat
  pc : Nat
  more : Bool
  ba : Option Addr
  bn : Nat
  bc : Nat
instance : Inhabited Mv := ⟨⟨⟨#[]⟩, false, none, 0, 0, false, none, 0, 0⟩⟩
def encM (m : Mv) : List Value := [.string m.name, .bool m.call, .slice m.pa m.pn m.pc, .bool m.more, .slice m.ba m.bn m.bc]
def aggM (m : Mv) : Value := .agg #[.string m.name, .bool m.call, .slice m.pa m.pn m.pc, .bool m.more, .slice m.ba m.bn m.bc]
/-- A definition. -/
structure Mc where
  name : ByteArray
  call : Bool
  params : List ByteArray
  more : Bool
  body : List Tk
/-- Values that are a definition. -/
structure MIs (w : World) (v : Mv) (m : Mc) : Prop where
  name : v.name = m.name
  call : v.call = m.call
  pn : v.pn = m.params.length
  pars : StAt w v.pa m.params
  more : v.more = m.more
  bn : v.bn = m.body.length
  body : TAt w v.ba m.body
theorem MIs.below {w w' : World} {v : Mv} {m : Mc} (h : MIs w v m) (hb : Below w.heap.size w w') : MIs w' v m :=
  ⟨h.name, h.call, h.pn, h.pars.below hb, h.more, h.bn, h.body.below hb⟩
/-- What a slice of macros holds. -/
def MsAt (w : World) (a : Option Addr) (vs : List Mv) : Prop :=
  (vs = [] ∧ a = none) ∨ ∃ b off, a = some ⟨b, off, none⟩ ∧ b < w.heap.size ∧ ∀ (j : Nat) x, vs[j]? = some x → ∀ (i : Nat) v, (encM x)[i]? = some v → w.cell? ⟨b, off + j * 5 + i, none⟩ = some v
theorem MsAt.below {w w' : World} {a : Option Addr} {vs : List Mv} (h : MsAt w a vs) (hb : Below w.heap.size w w') : MsAt w' a vs := by
  rcases h with ⟨rfl, rfl⟩ | ⟨b, off, rfl, hlt, hc⟩
  · exact .inl ⟨rfl, rfl⟩
  · exact .inr ⟨b, off, rfl, Nat.lt_of_lt_of_le hlt hb.size, fun j x hx i v hv => (hb.cell (p := ⟨b, _, none⟩) hlt).trans (hc j x hx i v hv)⟩
def cellsM (vs : List Mv) : List Value := vs.flatMap encM
theorem encM_length (m : Mv) : (encM m).length = 5 := rfl
theorem cellsM_length (vs : List Mv) : (cellsM vs).length = vs.length * 5 := by
  induction vs with
  | nil => rfl
  | cons x r ih => simp only [cellsM, List.flatMap_cons, List.length_append] at ih ⊢; rw [ih, encM_length]; simp; omega
theorem cellsM_append (vs us : List Mv) : cellsM (vs ++ us) = cellsM vs ++ cellsM us := by simp [cellsM]
theorem cellsM_one (x : Mv) : cellsM [x] = encM x := by simp [cellsM]
theorem cellsM_get (vs : List Mv) (j i : Nat) (x : Mv) (v : Value) (h : vs[j]? = some x) (hv : (encM x)[i]? = some v) : (cellsM vs)[j * 5 + i]? = some v := by
  have hi : i < 5 := by have := (List.getElem?_eq_some_iff.1 hv).1; rwa [encM_length] at this
  induction vs generalizing j with
  | nil => simp at h
  | cons y r ih =>
    cases j with
    | zero =>
      simp at h; subst h
      simp only [cellsM, List.flatMap_cons]
      rw [List.getElem?_append_left (by rw [encM_length]; omega)]
      simpa using hv
    | succ j =>
      have := ih j (by simpa using h)
      simp only [cellsM, List.flatMap_cons] at this ⊢
      rw [List.getElem?_append_right (by rw [encM_length]; omega)]
      have e1 : (j + 1) * 5 + i - (encM y).length = j * 5 + i := by rw [encM_length]; omega
      rw [e1]
      exact this
/-- Each cell of a row is one of some entry's. -/
theorem cellsM_at (vs : List Mv) (k : Nat) (u : Value) (h : (cellsM vs)[k]? = some u) : ∃ x, vs[k / 5]? = some x ∧ (encM x)[k % 5]? = some u := by
  have hk : k < vs.length * 5 := by have := (List.getElem?_eq_some_iff.1 h).1; rwa [cellsM_length] at this
  have hx : vs[k / 5]? = some (vs[k / 5]'(by omega)) := List.getElem?_eq_getElem _
  refine ⟨_, hx, ?_⟩
  have hm : k % 5 < (encM (vs[k / 5]'(by omega))).length := by rw [encM_length]; omega
  have hv := List.getElem?_eq_getElem hm
  have h2 := cellsM_get vs (k / 5) (k % 5) _ _ hx hv
  rw [show k / 5 * 5 + k % 5 = k by omega, h] at h2
  rw [hv, ← h2]
theorem encM_one (x : Mv) : ∀ u ∈ encM x, u.oneCell' = true := by
  intro u hu
  simp only [encM, List.mem_cons, List.not_mem_nil, or_false] at hu
  rcases hu with rfl | rfl | rfl | rfl | rfl <;> rfl
theorem cellsM_cell (vs : List Mv) : ∀ u ∈ cellsM vs, u.oneCell' = true := by
  intro u hu
  obtain ⟨x, _, hx⟩ := List.mem_flatMap.1 hu
  exact encM_one x u hx
theorem MsAt.news {w : World} {b off : Nat} {vs : List Mv} (hc : ∀ (j : Nat) x, vs[j]? = some x → ∀ (i : Nat) v, (encM x)[i]? = some v → w.cell? ⟨b, off + j * 5 + i, none⟩ = some v) : ∀ (j : Nat) u, (cellsM vs)[j]? = some u → w.cell? ⟨b, off + j, none⟩ = some u := by
  intro j u hu
  obtain ⟨x, hx, hv⟩ := cellsM_at vs j u hu
  have := hc _ x hx _ u hv
  rwa [show off + j / 5 * 5 + j % 5 = off + j by omega] at this
/-- Macros in memory, each with its values. -/
def MsIs (w : World) (vs : List Mv) (ms : List Mc) : Prop := vs.length = ms.length ∧ ∀ (j : Nat) v m, vs[j]? = some v → ms[j]? = some m → MIs w v m
theorem MsIs.below {w w' : World} {vs : List Mv} {ms : List Mc} (h : MsIs w vs ms) (hb : Below w.heap.size w w') : MsIs w' vs ms :=
  ⟨h.1, fun j v m hv hm => (h.2 j v m hv hm).below hb⟩

/-- The names that no definition may have. -/
def builtinB (l : List UInt8) : Bool := (l == [95, 95, 76, 73, 78, 69, 95, 95]) || (l == [95, 95, 70, 73, 76, 69, 95, 95]) || (l == [100, 101, 102, 105, 110, 101, 100])
/-- The first definition of a name; -1. -/
def findV (vs : List Mv) (n : List UInt8) : Int := Lib.idxBy (fun _ y => y.name.toList == n) vs default
end
section
open Go.RowKit Go.Shelf

end
section
open Go.RowKit Go.Shelf

theorem zeroCells_size (z : Array Value) (n : Nat) : (Builtin.zeroCells z n).size = n * z.size := by
  unfold Builtin.zeroCells
  simp
end
section
open Go.RowKit Go.Shelf

theorem MsAt.one {w : World} {B : Nat} {x : Mv} (h : ∀ (i : Nat) v, (encM x)[i]? = some v → w.cell? ⟨B, i, none⟩ = some v) : ∀ (j : Nat) u, (cellsM [x])[j]? = some u → w.cell? ((⟨B, 0, none⟩ : Addr).add j) = some u := by
  intro j u hu
  rw [cellsM_one] at hu
  rw [Addr.add_lit, Nat.zero_add]
  exact h j u hu
end
section
open Go.RowKit Go.Shelf Go.Lib

theorem getD_some {α : Type} [Inhabited α] {l : List α} {j : Nat} (h : j < l.length) : l[j]? = some l[j]! := by
  rw [List.getElem?_eq_getElem h, getElem!_pos l j h]
end
section
open Go.RowKit Go.Shelf

/-- Whether two tokens of bodies are the same. -/
def sameT (x y : Tk) : Bool := (x.kind == y.kind) && (x.text.toList == y.text.toList) && (x.space == y.space)
def sameTs : List Tk → List Tk → Bool
  | [], [] => true
  | x :: r, y :: s => sameT x y && sameTs r s
  | _, _ => false
theorem sameTs_len : ∀ (xs ys : List Tk), sameTs xs ys = true → xs.length = ys.length
  | [], [], _ => rfl
  | x :: r, y :: s, h => by
    simp only [sameTs, Bool.and_eq_true] at h
    simp [sameTs_len r s h.2]
  | [], _ :: _, h => by simp [sameTs] at h
  | _ :: _, [], h => by simp [sameTs] at h
theorem sameTs_iff : ∀ (xs ys : List Tk), xs.length = ys.length → (sameTs xs ys = true ↔ ∀ (j : Nat) x y, xs[j]? = some x → ys[j]? = some y → sameT x y = true)
  | [], [], _ => by simp [sameTs]
  | x :: r, y :: s, h => by
    have ih := sameTs_iff r s (by simpa using h)
    simp only [sameTs, Bool.and_eq_true, ih]
    constructor
    · rintro ⟨h1, h2⟩ j a b ha hb
      cases j with
      | zero => simp at ha hb; subst ha; subst hb; exact h1
      | succ j => exact h2 j a b (by simpa using ha) (by simpa using hb)
    · intro h'
      exact ⟨h' 0 x y rfl rfl, fun j a b ha hb => h' (j + 1) a b (by simpa using ha) (by simpa using hb)⟩

end
section
open Go.RowKit Go.Shelf

theorem tk_cells {w : World} {b off : Nat} {x : Tk} {j : Nat} (hcx : ∀ (i : Nat) v, (encT x)[i]? = some v → w.cell? ⟨b, off + j * 11 + i, none⟩ = some v) :
    w.cell? ⟨b, off + j * 11, none⟩ = some (.int .i64 x.kind) ∧ w.cell? ⟨b, off + j * 11 + 1, none⟩ = some (.string x.text) ∧ w.cell? ⟨b, off + j * 11 + 2, none⟩ = some (.bool x.space) ∧ w.cell? ⟨b, off + j * 11 + 3, none⟩ = some (.bool x.first) ∧ w.cell? ⟨b, off + j * 11 + 4, none⟩ = some (.int .i64 x.file) ∧ w.cell? ⟨b, off + j * 11 + 5, none⟩ = some (.int .i64 x.lo) ∧ w.cell? ⟨b, off + j * 11 + 6, none⟩ = some (.int .i64 x.hi) ∧ w.cell? ⟨b, off + j * 11 + 7, none⟩ = some (.int .i64 x.line) ∧ w.cell? ⟨b, off + j * 11 + 8, none⟩ = some (.slice none 0 0) ∧ w.cell? ⟨b, off + j * 11 + 9, none⟩ = some (.slice none 0 0) ∧ w.cell? ⟨b, off + j * 11 + 10, none⟩ = some (.int .i64 0) :=
  ⟨hcx 0 _ rfl, hcx 1 _ rfl, hcx 2 _ rfl, hcx 3 _ rfl, hcx 4 _ rfl, hcx 5 _ rfl, hcx 6 _ rfl, hcx 7 _ rfl, hcx 8 _ rfl, hcx 9 _ rfl, hcx 10 _ rfl⟩

/-- Whether two macros are written alike. -/
def sameM (x y : Mc) : Bool := (x.name.toList == y.name.toList) && (x.call == y.call) && (x.more == y.more) && decide (x.params = y.params) && sameTs x.body y.body
theorem drewN_below (w : World) : ∀ q, Below w.heap.size w (w.drewN q) := fun q => by
  induction q with
  | zero => exact Below.refl _ _
  | succ q ih => exact ih.drew
theorem two_blocks (w : World) (X Y : Obj) : ((w.alloc X).alloc Y).heap[w.heap.size]? = some X ∧ ((w.alloc X).alloc Y).heap[w.heap.size + 1]? = some Y :=
  ⟨(((Below.refl _ (w.alloc X)).alloc (Nat.le_refl _) Y).block _ (by simp)).trans (heap_alloc_new w X), by have := heap_alloc_new (w.alloc X) Y; simpa using this⟩
end
section
open Go.RowKit Go.Shelf

/-- What the search gives: -1 and no hit, or the first hit's place. -/
theorem idx_spec (p : Mv → Bool) : ∀ (l : List Mv) (i : Nat), (Lib.idxByFrom (fun _ y => p y) default l i = -1 ∧ ∀ v ∈ l, p v = false) ∨ ∃ k v, l[k]? = some v ∧ Lib.idxByFrom (fun _ y => p y) default l i = ((i + k : Nat) : Int) ∧ p v = true ∧ ∀ j u, j < k → l[j]? = some u → p u = false
  | [], _ => .inl ⟨rfl, fun v hv => by cases hv⟩
  | y :: r, i => by
    cases h : p y with
    | true => exact .inr ⟨0, y, rfl, by simp [Lib.idxByFrom, h], h, fun j u hj => absurd hj (Nat.not_lt_zero _)⟩
    | false =>
      rcases idx_spec p r (i + 1) with ⟨e, ha⟩ | ⟨k, v, hk, e, ht, ha⟩
      · refine .inl ⟨by simp [Lib.idxByFrom, h, e], fun v hv => ?_⟩
        rcases List.mem_cons.1 hv with rfl | hv
        · exact h
        · exact ha v hv
      · refine .inr ⟨k + 1, v, by simpa using hk, by simp only [Lib.idxByFrom, h]; rw [show (if false = true then (i : Int) else Lib.idxByFrom (fun _ y => p y) default r (i + 1)) = Lib.idxByFrom (fun _ y => p y) default r (i + 1) from rfl, e]; congr 1; omega, ht, fun j u hj hu => ?_⟩
        cases j with
        | zero => simp at hu; subst hu; exact h
        | succ j => exact ha j u (by omega) (by simpa using hu)
theorem find_spec (vs : List Mv) (n : List UInt8) : (findV vs n = -1 ∧ ∀ v ∈ vs, (v.name.toList == n) = false) ∨ ∃ (k : Nat) (v : Mv), vs[k]? = some v ∧ findV vs n = (k : Int) ∧ (v.name.toList == n) = true ∧ ∀ (j : Nat) (u : Mv), j < k → vs[j]? = some u → (u.name.toList == n) = false := by
  rcases idx_spec (fun y => y.name.toList == n) vs 0 with h | ⟨k, v, h1, h2, h3, h4⟩
  · exact .inl h
  · exact .inr ⟨k, v, h1, by unfold findV Lib.idxBy; rw [h2]; simp, h3, h4⟩

/-- What Define leaves of the values, and what it says. -/
def defV (vs : List Mv) (ms : List Mc) (x : Mv) (m : Mc) : List Mv × Int := match ms[(findV vs x.name.toList).toNat]? with
  | some o => if findV vs x.name.toList = -1 then (if 30 ≤ vs.length then ([], 5) else (vs ++ [x], 0)) else if sameM o m then (vs, 0) else ([], 7)
  | none => if 30 ≤ vs.length then ([], 5) else (vs ++ [x], 0)
theorem defV_new (vs : List Mv) (ms : List Mc) (x : Mv) (m : Mc) (h : findV vs x.name.toList = -1) : defV vs ms x m = if 30 ≤ vs.length then ([], 5) else (vs ++ [x], 0) := by
  unfold defV
  rw [h]
  cases ms[(-1 : Int).toNat]? with
  | none => rfl
  | some o => simp
theorem defV_old (vs : List Mv) (ms : List Mc) (x : Mv) (m : Mc) (k : Nat) (o : Mc) (h : findV vs x.name.toList = (k : Int)) (ho : ms[k]? = some o) : defV vs ms x m = if sameM o m then (vs, 0) else ([], 7) := by
  unfold defV
  rw [h, Int.toNat_natCast, ho]
  dsimp only
  rw [if_neg (by omega)]
def DefPost (w : World) (r : List Mv × Int) (e : Ending) (w' : World) : Prop := ∃ a' c', e = .returned (.tuple #[.slice a' r.1.length c', .int .i64 r.2]) ∧ MsAt w' a' r.1 ∧ Below w.heap.size w w'
/-- Bounds that any limits keep. -/
def Few (m : Mc) : Prop := m.params.length ≤ 1048576 ∧ m.body.length ≤ 1048576

theorem mac_facts {W : World} {B : Nat} {n : ByteArray} {b0 b1 : Bool} {a1 a2 : Option Addr} {n1 c1 n2 c2 : Nat} {T : TypeId} (h : W.heap[B]? = some (.cells #[.string n, .bool b0, .slice a1 n1 c1, .bool b1, .slice a2 n2 c2] T)) :
    W.cell? ⟨B, 0, none⟩ = some (.string n) ∧ W.cell? ⟨B, 1, none⟩ = some (.bool b0) ∧ W.cell? ⟨B, 2, none⟩ = some (.slice a1 n1 c1) ∧ W.cell? ⟨B, 3, none⟩ = some (.bool b1) ∧ W.cell? ⟨B, 4, none⟩ = some (.slice a2 n2 c2) := by
  simp [World.cell?, h]
end
section
open Go.RowKit Go.Shelf

/-- Those that stay. -/
def stay (n : List UInt8) (vs : List Mv) : List Mv := vs.filter fun v => !(v.name.toList == n)

/-- Five cells written. -/
def set5 (cur : Array Value) (o : Nat) (x : Mv) : Array Value := ((((cur.setIfInBounds o (.string x.name)).setIfInBounds (o + 1) (.bool x.call)).setIfInBounds (o + 2) (.slice x.pa x.pn x.pc)).setIfInBounds (o + 3) (.bool x.more)).setIfInBounds (o + 4) (.slice x.ba x.bn x.bc)
theorem set5_size (cur : Array Value) (o : Nat) (x : Mv) : (set5 cur o x).size = cur.size := by simp [set5]
theorem set5_out (cur : Array Value) (o : Nat) (x : Mv) (t : Nat) (h : t < o ∨ o + 5 ≤ t) : (set5 cur o x)[t]? = cur[t]? := by
  unfold set5
  rw [Array.getElem?_setIfInBounds_ne (by omega), Array.getElem?_setIfInBounds_ne (by omega), Array.getElem?_setIfInBounds_ne (by omega), Array.getElem?_setIfInBounds_ne (by omega), Array.getElem?_setIfInBounds_ne (by omega)]
theorem set5_in (cur : Array Value) (o : Nat) (x : Mv) (h : o + 5 ≤ cur.size) : ∀ (i : Nat) v, (encM x)[i]? = some v → (set5 cur o x)[o + i]? = some v := by
  intro i v hv
  match i, hv with
  | 0, hv =>
    cases hv
    unfold set5
    rw [Array.getElem?_setIfInBounds_ne (by omega), Array.getElem?_setIfInBounds_ne (by omega), Array.getElem?_setIfInBounds_ne (by omega), Array.getElem?_setIfInBounds_ne (by omega)]
    simp [Array.getElem?_setIfInBounds]; omega
  | 1, hv =>
    cases hv
    unfold set5
    rw [Array.getElem?_setIfInBounds_ne (by omega), Array.getElem?_setIfInBounds_ne (by omega), Array.getElem?_setIfInBounds_ne (by omega)]
    simp [Array.getElem?_setIfInBounds]; omega
  | 2, hv =>
    cases hv
    unfold set5
    rw [Array.getElem?_setIfInBounds_ne (by omega), Array.getElem?_setIfInBounds_ne (by omega)]
    simp [Array.getElem?_setIfInBounds]; omega
  | 3, hv =>
    cases hv
    unfold set5
    rw [Array.getElem?_setIfInBounds_ne (by omega)]
    simp [Array.getElem?_setIfInBounds]; omega
  | 4, hv =>
    cases hv
    unfold set5
    simp [Array.getElem?_setIfInBounds]; omega
  | i + 5, hv => simp [encM] at hv
theorem set5_take (cur : Array Value) (i : Nat) (x : Mv) (vs : List Mv) (h : i * 5 + 5 ≤ cur.size) (hi : i = vs.length) (ht : cur.toList.take (i * 5) = cellsM vs) : (set5 cur (i * 5) x).toList.take ((i + 1) * 5) = cellsM (vs ++ [x]) := by
  apply List.ext_getElem?
  intro t
  by_cases h1 : t < (i + 1) * 5
  · rw [List.getElem?_take_of_lt h1, Array.getElem?_toList, cellsM_append, cellsM_one]
    by_cases h2 : t < i * 5
    · rw [set5_out _ _ _ _ (.inl h2), List.getElem?_append_left (by rw [cellsM_length]; omega), ← ht, List.getElem?_take_of_lt h2, Array.getElem?_toList]
    · rw [List.getElem?_append_right (by rw [cellsM_length]; omega), cellsM_length, ← hi]
      have hm : t - i * 5 < (encM x).length := by rw [encM_length]; omega
      have := set5_in cur (i * 5) x h (t - i * 5) _ (List.getElem?_eq_getElem hm)
      rw [show i * 5 + (t - i * 5) = t by omega] at this
      rw [this, List.getElem?_eq_getElem hm]
  · rw [List.getElem?_eq_none (by rw [List.length_take]; omega), List.getElem?_eq_none (by rw [cellsM_length, List.length_append]; simp; omega)]
theorem stay_snoc (n : List UInt8) (vs : List Mv) (j : Nat) (x : Mv) (h : vs[j]? = some x) : stay n (vs.take (j + 1)) = if (x.name.toList == n) = true then stay n (vs.take j) else stay n (vs.take j) ++ [x] := by
  unfold stay
  rw [List.take_add_one, h, List.filter_append]
  rcases hx : (x.name.toList == n) with _ | _
  · simp [hx]
  · simp [hx]
theorem stay_len (n : List UInt8) (vs : List Mv) : (stay n vs).length ≤ vs.length := List.length_filter_le _ _
def DelPost (w : World) (vs : List Mv) (e : Ending) (w' : World) : Prop := ∃ a' c', e = .returned (.slice a' vs.length c') ∧ MsAt w' a' vs ∧ Below w.heap.size w w'
theorem not_m1 (k : Nat) : ((k : Int) == -1) = false := by rw [beq_eq_false_iff_ne]; omega
theorem nxt_k {k : Nat} (h : k ≤ 1048577) : IntKind.i64.wrap ((k : Int) + 1) = (k : Int) + 1 := by rw [IntKind.wrap_i64]; omega
theorem nxt_w {k : Nat} (h : k ≤ 1048577) : wrap64 ((k : Int) + 1) = (k : Int) + 1 := by unfold wrap64; omega
theorem less_j {j n : Nat} (h : j < n) {x : Value} (hx : x = .int .i64 ((j : Int) + 1)) : n - (intOf x).toNat < n - (intOf (.int .i64 (j : Int))).toNat := by
  subst hx; simp [intOf]; omega
theorem alloc_below {W W2 : World} {o : Obj} (hb : Below (W.alloc o).heap.size (W.alloc o) W2) : Below W.heap.size W W2 := by
  have h0 : Below W.heap.size W (W.alloc o) := (Below.refl _ W).alloc (Nat.le_refl _) o
  exact h0.trans (hb.mono h0.size)
theorem below_setCells {w0 : World} {B g : Nat} (hg : B ≤ g) : ∀ (L : List Value) (o : Nat) (W : World), Below B w0 W → Below B w0 (W.setCells g o L)
  | [], _, _, h => h
  | v :: r, o, _, h => below_setCells hg r (o + 1) _ (h.setCell (p := ⟨g, o, none⟩) hg v)
theorem size_setCells (g : Nat) : ∀ (L : List Value) (o : Nat) (W : World), (W.setCells g o L).heap.size = W.heap.size
  | [], _, _ => rfl
  | v :: r, o, W => by
    have := size_setCells g r (o + 1) (W.setCell ⟨g, o, none⟩ v)
    rw [show W.setCells g o (v :: r) = (W.setCell ⟨g, o, none⟩ v).setCells g (o + 1) r from rfl, this]
    simp
/-- The world with five cells written. -/
def put5 (W : World) (g o : Nat) (x : Mv) : World := ((((W.setCell ⟨g, o, none⟩ (.string x.name)).setCell ⟨g, o + 1, none⟩ (.bool x.call)).setCell ⟨g, o + 2, none⟩ (.slice x.pa x.pn x.pc)).setCell ⟨g, o + 3, none⟩ (.bool x.more)).setCell ⟨g, o + 4, none⟩ (.slice x.ba x.bn x.bc)
end
section
open Go.RowKit Go.Shelf

def isNamed (n : List UInt8) (o : Mc) : Bool := o.name.toList == n
/-- What Define makes of definitions, and what it says. -/
def defM (ms : List Mc) (m : Mc) : List Mc × Int := match ms.findIdx? (isNamed m.name.toList) with
  | some k => (match ms[k]? with
    | some o => if sameM o m then (ms, 0) else ([], 7)
    | none => ([], 0))
  | none => if 30 ≤ ms.length then ([], 5) else (ms ++ [m], 0)
def stayM (n : List UInt8) (ms : List Mc) : List Mc := ms.filter fun o => !(isNamed n o)
theorem find_no {ms : List Mc} {n : List UInt8} : ms.findIdx? (isNamed n) = none ↔ ∀ o ∈ ms, isNamed n o = false := by
  rw [List.findIdx?_eq_none_iff]
theorem find_at {ms : List Mc} {n : List UInt8} {k : Nat} (h : ms.findIdx? (isNamed n) = some k) : ∃ o, ms[k]? = some o ∧ isNamed n o = true ∧ ∀ j u, j < k → ms[j]? = some u → isNamed n u = false := by
  obtain ⟨hk, hp, ha⟩ := List.findIdx?_eq_some_iff_getElem.1 h
  refine ⟨ms[k], List.getElem?_eq_getElem hk, hp, fun j u hj hu => ?_⟩
  have := ha j hj
  obtain ⟨hl, rfl⟩ := List.getElem?_eq_some_iff.1 hu
  simpa using this
theorem find_is {ms : List Mc} {n : List UInt8} {k : Nat} {o : Mc} (h1 : ms[k]? = some o) (h2 : isNamed n o = true) (h3 : ∀ j u, j < k → ms[j]? = some u → isNamed n u = false) : ms.findIdx? (isNamed n) = some k := by
  obtain ⟨hk, rfl⟩ := List.getElem?_eq_some_iff.1 h1
  refine List.findIdx?_eq_some_iff_getElem.2 ⟨hk, h2, fun j hj => ?_⟩
  have := h3 j _ hj (List.getElem?_eq_getElem (by omega))
  simp [this]
theorem defM_old {ms : List Mc} {m : Mc} {k : Nat} {o : Mc} (h : ms.findIdx? (isNamed m.name.toList) = some k) (ho : ms[k]? = some o) : defM ms m = if sameM o m then (ms, 0) else ([], 7) := by
  unfold defM
  rw [h]
  dsimp only
  rw [ho]
theorem defM_new {ms : List Mc} {m : Mc} (h : ms.findIdx? (isNamed m.name.toList) = none) : defM ms m = if 30 ≤ ms.length then ([], 5) else (ms ++ [m], 0) := by
  unfold defM
  rw [h]
theorem MsIs.snoc {w : World} {vs : List Mv} {ms : List Mc} {x : Mv} {m : Mc} (h : MsIs w vs ms) (hx : MIs w x m) : MsIs w (vs ++ [x]) (ms ++ [m]) := by
  refine ⟨by simp [h.1], fun j v o hv ho => ?_⟩
  by_cases hj : j < vs.length
  · rw [List.getElem?_append_left hj] at hv
    rw [List.getElem?_append_left (by rw [← h.1]; exact hj)] at ho
    exact h.2 j v o hv ho
  · rw [List.getElem?_append_right (by omega)] at hv
    rw [List.getElem?_append_right (by rw [← h.1]; omega)] at ho
    have hl := h.1
    have hz : j - vs.length = 0 := by
      have := (List.getElem?_eq_some_iff.1 hv).1
      simp at this
      omega
    rw [hz] at hv
    rw [show j - ms.length = 0 by omega] at ho
    simp at hv ho
    subst hv ho
    exact hx
theorem MsIs.nil {w : World} : MsIs w [] [] := ⟨rfl, fun j v m hv => by simp at hv⟩
theorem findV_M {w : World} {vs : List Mv} {ms : List Mc} (h : MsIs w vs ms) (n : List UInt8) : (findV vs n = -1 ∧ ms.findIdx? (isNamed n) = none) ∨ ∃ k : Nat, findV vs n = (k : Int) ∧ ms.findIdx? (isNamed n) = some k := by
  have hn : ∀ (j : Nat) v o, vs[j]? = some v → ms[j]? = some o → isNamed n o = (v.name.toList == n) := fun j v o hv ho => by
    unfold isNamed
    rw [(h.2 j v o hv ho).name]
  have hget : ∀ (j : Nat) o, ms[j]? = some o → ∃ v, vs[j]? = some v := fun j o ho => ⟨_, List.getElem?_eq_getElem (by rw [h.1]; exact (List.getElem?_eq_some_iff.1 ho).1)⟩
  rcases find_spec vs n with ⟨h1, h2⟩ | ⟨k, v, hk, h1, h2, h3⟩
  · refine .inl ⟨h1, find_no.2 fun o ho => ?_⟩
    obtain ⟨j, hj, rfl⟩ := List.getElem_of_mem ho
    have hj' := List.getElem?_eq_getElem hj
    obtain ⟨v, hv⟩ := hget j _ hj'
    rw [hn j v _ hv hj']
    exact h2 v (List.mem_of_getElem? hv)
  · have hkm : ms[k]? = some (ms[k]'(by rw [← h.1]; exact (List.getElem?_eq_some_iff.1 hk).1)) := List.getElem?_eq_getElem _
    refine .inr ⟨k, h1, find_is hkm (by rw [hn k v _ hk hkm]; exact h2) fun j u hj hu => ?_⟩
    obtain ⟨v', hv'⟩ := hget j u hu
    rw [hn j v' u hv' hu]
    exact h3 j v' hj hv'
/-- Define, on values and on what they are. -/
theorem def_is {w : World} {vs : List Mv} {ms : List Mc} {x : Mv} {m : Mc} (h : MsIs w vs ms) (hx : MIs w x m) : (defV vs ms x m).2 = (defM ms m).2 ∧ MsIs w (defV vs ms x m).1 (defM ms m).1 := by
  have hl := h.1
  rcases findV_M h x.name.toList with ⟨h1, h2⟩ | ⟨k, h1, h2⟩
  · rw [hx.name] at h2
    rw [defV_new vs ms x m h1, defM_new h2, hl]
    split
    · exact ⟨rfl, MsIs.nil⟩
    · exact ⟨rfl, h.snoc hx⟩
  · rw [hx.name] at h2
    obtain ⟨o, ho, _⟩ := find_at h2
    rw [defV_old vs ms x m k o h1 ho, defM_old h2 ho]
    split
    · exact ⟨rfl, h⟩
    · exact ⟨rfl, MsIs.nil⟩
theorem sameTs_eq : ∀ (a b : List Tk), sameTs a b = true ↔ a.map (fun t => (t.kind, t.text.toList, t.space)) = b.map (fun t => (t.kind, t.text.toList, t.space))
  | [], [] => by simp [sameTs]
  | [], _ :: _ => by simp [sameTs]
  | _ :: _, [] => by simp [sameTs]
  | x :: r, y :: s => by
    have ih := sameTs_eq r s
    simp only [sameTs, sameT, Bool.and_eq_true, beq_iff_eq, List.map_cons, List.cons.injEq, Prod.mk.injEq, ih]
    constructor
    · rintro ⟨⟨⟨a, b⟩, c⟩, d⟩; exact ⟨⟨a, b, c⟩, d⟩
    · rintro ⟨⟨a, b, c⟩, d⟩; exact ⟨⟨⟨a, b⟩, c⟩, d⟩
/-- What counts of a definition. -/
def keyM (m : Mc) : List UInt8 × Bool × Bool × List ByteArray × List (Int × List UInt8 × Bool) := (m.name.toList, m.call, m.more, m.params, m.body.map (fun t => (t.kind, t.text.toList, t.space)))
theorem sameM_eq (a b : Mc) : sameM a b = true ↔ keyM a = keyM b := by
  unfold sameM keyM
  simp only [Bool.and_eq_true, beq_iff_eq, decide_eq_true_eq, sameTs_eq, Prod.mk.injEq]
  constructor
  · rintro ⟨⟨⟨⟨a, b⟩, c⟩, d⟩, e⟩; exact ⟨a, b, c, d, e⟩
  · rintro ⟨a, b, c, d, e⟩; exact ⟨⟨⟨⟨a, b⟩, c⟩, d⟩, e⟩
theorem sameM_self (a : Mc) : sameM a a = true := (sameM_eq a a).2 rfl
/-- Where Define is right: the first of that name is the same. -/
theorem def_found {ms : List Mc} {m : Mc} (h : (defM ms m).2 = 0) : ∃ k o, (defM ms m).1.findIdx? (isNamed m.name.toList) = some k ∧ (defM ms m).1[k]? = some o ∧ sameM o m = true := by
  rcases hf : ms.findIdx? (isNamed m.name.toList) with _ | k
  · rw [defM_new hf] at h ⊢
    by_cases hl : 30 ≤ ms.length
    · rw [if_pos hl] at h; cases h
    · rw [if_neg hl]
      refine ⟨ms.length, m, find_is (o := m) (by simp) (by simp [isNamed]) (fun j u hj hu => ?_), by simp, sameM_self m⟩
      rw [List.getElem?_append_left hj] at hu
      exact find_no.1 hf u (List.mem_of_getElem? hu)
  · obtain ⟨o, ho, _⟩ := find_at hf
    rw [defM_old hf ho] at h ⊢
    by_cases hs : sameM o m = true
    · rw [if_pos hs]
      exact ⟨k, o, hf, ho, hs⟩
    · rw [if_neg hs] at h; cases h
theorem def_none {ms : List Mc} {m : Mc} (h : (defM ms m).2 ≠ 0) : (defM ms m).1 = [] := by
  rcases hf : ms.findIdx? (isNamed m.name.toList) with _ | k
  · rw [defM_new hf] at h ⊢
    split
    · rfl
    · rename_i hl
      rw [if_neg hl] at h
      exact absurd rfl h
  · obtain ⟨o, ho, _⟩ := find_at hf
    rw [defM_old hf ho] at h ⊢
    split
    · rename_i hs
      rw [if_pos hs] at h
      exact absurd rfl h
    · rfl
theorem def_twice {ms : List Mc} {m : Mc} (h : (defM ms m).2 = 0) : defM (defM ms m).1 m = ((defM ms m).1, 0) := by
  obtain ⟨k, o, h1, h2, h3⟩ := def_found h
  rw [defM_old h1 h2, if_pos h3]
theorem def_other {ms : List Mc} {m y : Mc} (h : (defM ms m).2 = 0) (hn : y.name.toList = m.name.toList) (hs : sameM m y = false) : (defM (defM ms m).1 y).2 = 7 := by
  obtain ⟨k, o, h1, h2, h3⟩ := def_found h
  rw [← hn] at h1
  rw [defM_old h1 h2, if_neg]
  intro h4
  have := (sameM_eq m y).2 (((sameM_eq o m).1 h3).symm.trans ((sameM_eq o y).1 h4))
  rw [hs] at this
  cases this
theorem stay_is {w : World} {vs : List Mv} {ms : List Mc} (h : MsIs w vs ms) (n : List UInt8) : MsIs w (stay n vs) (stayM n ms) := by
  obtain ⟨hl, ha⟩ := h
  induction vs generalizing ms with
  | nil =>
    cases ms with
    | nil => exact MsIs.nil
    | cons o r => simp at hl
  | cons v vr ih =>
    cases ms with
    | nil => simp at hl
    | cons o r =>
      have h0 := ha 0 v o rfl rfl
      have ih' := ih (ms := r) (by simpa using hl) (fun j a b hv ho => ha (j + 1) a b (by simpa using hv) (by simpa using ho))
      have e : isNamed n o = (v.name.toList == n) := by unfold isNamed; rw [h0.name]
      unfold stay stayM at ih' ⊢
      rw [List.filter_cons, List.filter_cons, e]
      split
      · refine ⟨by simp [ih'.1], fun j a b hv ho => ?_⟩
        cases j with
        | zero => simp at hv ho; subst hv ho; exact h0
        | succ j => exact ih'.2 j a b (by simpa using hv) (by simpa using ho)
      · exact ih'
theorem stay_find (n : List UInt8) (ms : List Mc) : (stayM n ms).findIdx? (isNamed n) = none := by
  refine find_no.2 fun o ho => ?_
  have := (List.mem_filter.1 ho).2
  simpa using this
theorem stay_less {n : List UInt8} {ms : List Mc} {k : Nat} (h : ms.findIdx? (isNamed n) = some k) : (stayM n ms).length < ms.length := by
  obtain ⟨o, ho, hn, _⟩ := find_at h
  have hm := List.mem_of_getElem? ho
  have := List.length_filter_lt_length_iff_exists (l := ms) (p := fun o => !(isNamed n o))
  exact this.2 ⟨o, hm, by simp [hn]⟩
theorem def_len {ms : List Mc} {m : Mc} (h : ms.length ≤ 30) : (defM ms m).1.length ≤ 30 := by
  rcases hf : ms.findIdx? (isNamed m.name.toList) with _ | k
  · rw [defM_new hf]
    split
    · simp
    · simp; omega
  · obtain ⟨o, ho, _⟩ := find_at hf
    rw [defM_old hf ho]
    split
    · exact h
    · simp
theorem def_mem {ms : List Mc} {m o : Mc} (h : o ∈ (defM ms m).1) : o ∈ ms ∨ o = m := by
  rcases hf : ms.findIdx? (isNamed m.name.toList) with _ | k
  · rw [defM_new hf] at h
    split at h
    · cases h
    · rcases List.mem_append.1 h with h | h
      · exact .inl h
      · exact .inr (List.mem_singleton.1 h)
  · obtain ⟨u, hu, _⟩ := find_at hf
    rw [defM_old hf hu] at h
    split at h
    · exact .inl h
    · cases h
theorem def_again {ms : List Mc} {m y : Mc} (h : (defM ms m).2 = 0) (hl : ms.length ≤ 30) (hn : y.name.toList = m.name.toList) : (defM (stayM m.name.toList (defM ms m).1) y).2 = 0 := by
  obtain ⟨k, o, h1, h2, h3⟩ := def_found h
  have hlt := stay_less h1
  have hle := def_len (m := m) hl
  have hf := stay_find m.name.toList (defM ms m).1
  rw [← hn] at hf hlt
  rw [← hn, defM_new hf, if_neg (by omega)]
end
end Go.Proofs.Ytkfbhknhjpmomaa
