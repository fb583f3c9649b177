/- Walk of measure: the first of some shapes that fits. · Walks of Signs, quoted and shapes. · What the shapes hold in memory, and that each measures as it should; what stays when two variables turn. · Walks of pieces and of what it answers: one piece after the other. · Walk of the function that gives out pieces, one by one. · How tokens lie in memory; walk of behindInclude. -/
import Derived.Test.YtkfbhknhjpmomaaLxB
import Derived.Test.YtkfbhknhjpmomaaLater
import Derived.Laws.EntriesVeiled
import Derived.Lib.SmallJoins
import Derived.Deep.RegionHeld3
namespace Go.Proofs.Ytkfbhknhjpmomaa
section
open Go.RowKit Go.Shelf

/-- A shape: its kind, the function that measures it with what that holds, and what it answers of the text at hand. -/
structure Shape where
  kind : Int
  fn : Nat
  caps : Array Value
  size : Int

def Shape.Fits (e : Shape) (s : ByteArray) (w : World) : Prop :=
  (∀ args W, (callFunc e.fn args).run Try.prog W = .ok (.enter e.fn args) W) ∧
  ∀ W, Below w.heap.size w W → Calls Try.prog e.fn (#[.string s] ++ e.caps) W fun r w' => r = .returned (.int .i64 e.size) ∧ Below W.heap.size W w'

/-- What a slice of shapes holds. -/
def ShAt (w : World) (b : Nat) (es : List Shape) : Prop :=
  b < w.heap.size ∧ ∀ (j : Nat) e, es[j]? = some e → w.cell? ⟨b, j * 2, none⟩ = some (.int .i64 e.kind) ∧ w.cell? ⟨b, j * 2 + 1, none⟩ = some (.func (.func e.fn) #[] e.caps)

def kindSize (e : Shape) : Int × Int := (e.kind, e.size)

theorem pick_cons (k n : Int) (r : List (Int × Int)) : pick ((k, n) :: r) = if n = -1 then (-1, 0) else if 0 < n then (k, n) else pick r := rfl

theorem ret_pair {a b c d : Int} (h1 : a = c) (h2 : b = d) : Ending.returned (.tuple #[.int .i64 a, .int .i64 b]) = .returned (.tuple #[.int .i64 c, .int .i64 d]) := by rw [h1, h2]

end
section
open Go.RowKit Go.Shelf

theorem ascii_of_all {s : ByteArray} (h : s.data.toList.all (fun b => decide (b.toNat < 128)) = true) : ∀ (j : Nat) b, s.data.toList[j]? = some b → b.toNat < 128 := by
  intro j b hb
  have := List.all_eq_true.1 h b (List.mem_of_getElem? hb)
  simpa using this

def signCells : Array Value := (signsL.map fun l => Value.string ⟨l.toArray⟩).toArray

end
section
open Go.RowKit Go.Shelf

/-- All that lay lies as it did, but some blocks. -/
structure Kept (X : Nat → Prop) (w w' : World) : Prop where
  os : w'.os = w.os
  tape : w'.tape = w.tape
  output : w'.output = w.output
  size : w.heap.size ≤ w'.heap.size
  block : ∀ k, k < w.heap.size → ¬ X k → w'.heap[k]? = w.heap[k]?
theorem Kept.refl (X : Nat → Prop) (w : World) : Kept X w w := ⟨rfl, rfl, rfl, Nat.le_refl _, fun _ _ _ => rfl⟩
theorem Kept.trans {X : Nat → Prop} {a b c : World} (h : Kept X a b) (k : Kept X b c) : Kept X a c :=
  ⟨k.os.trans h.os, k.tape.trans h.tape, k.output.trans h.output, Nat.le_trans h.size k.size, fun i hi hx => (k.block i (Nat.lt_of_lt_of_le hi h.size) hx).trans (h.block i hi hx)⟩
theorem kept_of_below {X : Nat → Prop} {w w' : World} (h : Below w.heap.size w w') : Kept X w w' := ⟨h.os, h.tape, h.output, h.size, fun k hk _ => h.block k hk⟩
theorem Kept.cell {X : Nat → Prop} {w w' : World} (h : Kept X w w') {p : Addr} (hp : p.block < w.heap.size) (hx : ¬ X p.block) : w'.cell? p = w.cell? p :=
  World.cell?_of_block (h.block _ hp hx)
theorem Kept.setCell {X : Nat → Prop} {w w' : World} (h : Kept X w w') {a : Addr} (hx : X a.block) (v : Value) : Kept X w (w'.setCell a v) := by
  refine h.trans ⟨rfl, rfl, rfl, by simp, fun k hk hk' => ?_⟩
  exact Below.heap_setCell w' a v k (fun e => hk' (e ▸ hx))
theorem Kept.below {X : Nat → Prop} {B : Nat} {w w' : World} (h : Kept X w w') (hB : B ≤ w.heap.size) (hx : ∀ k, k < B → ¬ X k) : Below B w w' :=
  ⟨h.os, h.tape, h.output, h.size, fun k hk => h.block k (Nat.lt_of_lt_of_le hk hB) (hx k hk)⟩
theorem Kept.mono {X Y : Nat → Prop} {w w' : World} (h : Kept X w w') (hy : ∀ k, X k → Y k) : Kept Y w w' :=
  ⟨h.os, h.tape, h.output, h.size, fun k hk hx => h.block k hk (fun hX => hx (hy k hX))⟩
theorem Kept.less {X : Nat → Prop} {w w' : World} (h : Kept X w w') {b : Nat} (hb : b < w.heap.size) : b < w'.heap.size := Nat.lt_of_lt_of_le hb h.size

theorem alloc_at (w : World) (o : Obj) (k : Nat) : (w.alloc o).heap[k]? = if k = w.heap.size then some o else w.heap[k]? := by
  show (w.heap.push o)[k]? = _
  rw [Array.getElem?_push]

end
section
open Go.RowKit Go.Shelf

end
section
open Go.RowKit Go.Shelf

theorem pick_nonneg : ∀ (ss : List (Int × Int)), 0 ≤ (pick ss).2
  | [] => by simp [pick]
  | (k, n) :: r => by
    unfold pick
    split
    · simp
    · split
      · simp only; omega
      · exact pick_nonneg r

theorem pick_bound (N : Int) (hN : 1 ≤ N) : ∀ (ss : List (Int × Int)), (∀ p ∈ ss, p.2 ≤ N) → (pick ss).2 ≤ N
  | [], _ => by simp [pick]; omega
  | (k, n) :: r, h => by
    have h0 := h (k, n) (by simp)
    unfold pick
    split
    · simp only; omega
    · split
      · exact h0
      · exact pick_bound N hN r (fun p hp => h p (by simp [hp]))

/-- The piece that comes next, of kind 0 at the end, of kind -1 where one has no end. -/
def nextPc (s : List UInt8) (i : Nat) (inc : Bool) : Pc :=
  let g := skip s i false (i == 0)
  if g.lacks then ⟨-1, g.to, 0, false, false⟩
  else if s.length ≤ g.to then ⟨0, 0, 0, false, false⟩
  else let m := pick (sizes (s.drop g.to) (!g.first && inc)); ⟨m.1, g.to, g.to + m.2.toNat, g.space, g.first⟩
/-- And where the next one is looked for. -/
def nextAt (s : List UInt8) (i : Nat) (inc : Bool) : Nat :=
  let g := skip s i false (i == 0)
  if g.lacks then g.to
  else if s.length ≤ g.to then g.to
  else g.to + (pick (sizes (s.drop g.to) (!g.first && inc))).2.toNat
def pieceV (p : Pc) : Value := .agg #[.int .i64 p.kind, .int .i64 (p.lo : Int), .int .i64 (p.hi : Int), .bool p.space, .bool p.first]

/-- The two variables that turn. -/
def turnX (H : Nat) : Nat → Prop := fun k => k = H + 2 ∨ k = H + 3

theorem block_facts {w : World} {b : Nat} {c : Array Value} {T : TypeId} (h : w.heap[b]? = some (.cells c T)) : ∀ i, w.cell? ⟨b, i, none⟩ = c[i]? ∧ w.frozen? ⟨b, i, none⟩ = false := by
  intro i
  simp [World.cell?, World.frozen?, h]

theorem lt_of_block {w : World} {b : Nat} {o : Obj} (h : w.heap[b]? = some o) : b < w.heap.size := (Array.getElem?_eq_some_iff.1 h).1

theorem five_set {w : World} {g : Nat} {a0 a1 a2 a3 a4 : Value} {T : TypeId} (h : w.heap[g]? = some (.cells #[a0, a1, a2, a3, a4] T)) (x0 x1 x2 x3 x4 : Value) :
    (((((w.setCell ⟨g, 0, none⟩ x0).setCell ⟨g, 1, none⟩ x1).setCell ⟨g, 2, none⟩ x2).setCell ⟨g, 3, none⟩ x3).setCell ⟨g, 4, none⟩ x4).heap[g]? = some (.cells #[x0, x1, x2, x3, x4] T) := by
  have h0 := Go.Joins.block_setCell (i := 0) h x0
  have h1 := Go.Joins.block_setCell (i := 1) h0 x1
  have h2 := Go.Joins.block_setCell (i := 2) h1 x2
  have h3 := Go.Joins.block_setCell (i := 3) h2 x3
  have h4 := Go.Joins.block_setCell (i := 4) h3 x4
  simpa using h4
theorem five_far (w : World) (g k : Nat) (x0 x1 x2 x3 x4 : Value) (hne : k ≠ g) :
    (((((w.setCell ⟨g, 0, none⟩ x0).setCell ⟨g, 1, none⟩ x1).setCell ⟨g, 2, none⟩ x2).setCell ⟨g, 3, none⟩ x3).setCell ⟨g, 4, none⟩ x4).heap[k]? = w.heap[k]? := by
  rw [Below.heap_setCell _ _ _ _ hne, Below.heap_setCell _ _ _ _ hne, Below.heap_setCell _ _ _ _ hne, Below.heap_setCell _ _ _ _ hne, Below.heap_setCell _ _ _ _ hne]
theorem five_kept {X : Nat → Prop} {w0 w : World} {g : Nat} (h : Kept X w0 w) (hx : X g) (x0 x1 x2 x3 x4 : Value) :
    Kept X w0 (((((w.setCell ⟨g, 0, none⟩ x0).setCell ⟨g, 1, none⟩ x1).setCell ⟨g, 2, none⟩ x2).setCell ⟨g, 3, none⟩ x3).setCell ⟨g, 4, none⟩ x4) :=
  ((((h.setCell (a := ⟨g, 0, none⟩) hx x0).setCell (a := ⟨g, 1, none⟩) hx x1).setCell (a := ⟨g, 2, none⟩) hx x2).setCell (a := ⟨g, 3, none⟩) hx x3).setCell (a := ⟨g, 4, none⟩) hx x4

/-- A block beyond those that lay may turn. -/
theorem Kept.setFar {X : Nat → Prop} {w0 w : World} (h : Kept X w0 w) {a : Addr} (hg : w0.heap.size ≤ a.block) (v : Value) : Kept X w0 (w.setCell a v) :=
  ⟨h.os, h.tape, h.output, by simp; exact h.size, fun k hk hx => (Below.heap_setCell w a v k (by omega)).trans (h.block k hk hx)⟩

theorem nextPc_lacks {s : List UInt8} {i k : Nat} {sp fi inc : Bool} (h : skip s i false (i == 0) = ⟨k, sp, fi, true⟩) : nextPc s i inc = ⟨-1, k, 0, false, false⟩ ∧ nextAt s i inc = k := by
  unfold nextPc nextAt; rw [h]; exact ⟨rfl, rfl⟩
theorem nextPc_end {s : List UInt8} {i k : Nat} {sp fi inc : Bool} (h : skip s i false (i == 0) = ⟨k, sp, fi, false⟩) (hk : s.length ≤ k) : nextPc s i inc = ⟨0, 0, 0, false, false⟩ ∧ nextAt s i inc = k := by
  unfold nextPc nextAt; rw [h]
  exact ⟨if_pos hk, if_pos hk⟩
theorem nextPc_one {s : List UInt8} {i k : Nat} {sp fi inc : Bool} (h : skip s i false (i == 0) = ⟨k, sp, fi, false⟩) (hk : ¬ s.length ≤ k) :
    nextPc s i inc = ⟨(pick (sizes (s.drop k) (!fi && inc))).1, k, k + (pick (sizes (s.drop k) (!fi && inc))).2.toNat, sp, fi⟩ ∧ nextAt s i inc = k + (pick (sizes (s.drop k) (!fi && inc))).2.toNat := by
  unfold nextPc nextAt; rw [h]
  exact ⟨if_neg hk, if_neg hk⟩

theorem skipF_zero (l : List UInt8) (f k : Nat) (sp fi : Bool) (hf : 0 < f) (h : blankSz (l.drop k) = 0) : skipF l f k sp fi = ⟨k, sp, fi, false⟩ := by
  cases f with
  | zero => omega
  | succ f => unfold skipF; rw [if_pos h]
theorem skipF_lacks (l : List UInt8) (f k : Nat) (sp fi : Bool) (hf : 0 < f) (h : blankSz (l.drop k) = -1) : skipF l f k sp fi = ⟨k, sp, fi, true⟩ := by
  cases f with
  | zero => omega
  | succ f => unfold skipF; rw [if_neg (by omega), if_pos (by omega)]
theorem skipF_on (l : List UInt8) (f k n : Nat) (sp fi : Bool) (hf : 0 < f) (h : blankSz (l.drop k) = (n : Int)) (hn : 0 < n) : skipF l f k sp fi = skipF l (f - 1) (k + n) true (fi || byteAt l k == 10) := by
  cases f with
  | zero => omega
  | succ f =>
    have e : skipF l (f + 1) k sp fi = if blankSz (l.drop k) = 0 then ⟨k, sp, fi, false⟩ else if blankSz (l.drop k) < 0 then ⟨k, sp, fi, true⟩ else skipF l f (k + (blankSz (l.drop k)).toNat) true (fi || byteAt l k == 10) := rfl
    rw [e, h, if_neg (by omega), if_neg (by omega)]
    rfl

end
section
open Go.RowKit Go.Shelf

def encT (t : Tk) : List Value :=
  [.int .i64 t.kind, .string t.text, .bool t.space, .bool t.first, .int .i64 t.file, .int .i64 t.lo, .int .i64 t.hi, .int .i64 t.line, .slice none 0 0, .slice none 0 0, .int .i64 0]
def cellsT (ts : List Tk) : List Value := ts.flatMap encT
theorem encT_length (t : Tk) : (encT t).length = 11 := rfl
theorem cellsT_length (ts : List Tk) : (cellsT ts).length = ts.length * 11 := by
  induction ts with
  | nil => rfl
  | cons x r ih => simp only [cellsT, List.flatMap_cons, List.length_append] at ih ⊢; rw [ih, encT_length]; simp; omega
theorem cellsT_snoc (ts : List Tk) (x : Tk) : cellsT (ts ++ [x]) = cellsT ts ++ encT x := by simp [cellsT]
theorem cellsT_get (ts : List Tk) (j i : Nat) (x : Tk) (v : Value) (h : ts[j]? = some x) (hv : (encT x)[i]? = some v) : (cellsT ts)[j * 11 + i]? = some v := by
  have hi : i < 11 := by have := (List.getElem?_eq_some_iff.1 hv).1; rwa [encT_length] at this
  induction ts generalizing j with
  | nil => simp at h
  | cons y r ih =>
    cases j with
    | zero =>
      simp at h; subst h
      simp only [cellsT, List.flatMap_cons]
      rw [List.getElem?_append_left (by rw [encT_length]; omega)]
      simpa using hv
    | succ j =>
      have := ih j (by simpa using h)
      simp only [cellsT, List.flatMap_cons] at this ⊢
      rw [List.getElem?_append_right (by rw [encT_length]; omega)]
      have e1 : (j + 1) * 11 + i - (encT y).length = j * 11 + i := by rw [encT_length]; omega
      rw [e1]
      exact this

/-- What a slice of tokens holds. -/
def TAt (w : World) (a : Option Addr) (ts : List Tk) : Prop :=
  ts = [] ∨ ∃ b off, a = some ⟨b, off, none⟩ ∧ b < w.heap.size ∧ ∀ (j : Nat) x, ts[j]? = some x → ∀ (i : Nat) v, (encT x)[i]? = some v → w.cell? ⟨b, off + j * 11 + i, none⟩ = some v
theorem TAt.below {w w' : World} {a : Option Addr} {ts : List Tk} (h : TAt w a ts) (hb : Below w.heap.size w w') : TAt w' a ts := by
  rcases h with rfl | ⟨b, off, rfl, hlt, hc⟩
  · exact .inl rfl
  · exact .inr ⟨b, off, rfl, Nat.lt_of_lt_of_le hlt hb.size, fun j x hx i v hv => (hb.cell (p := ⟨b, _, none⟩) hlt).trans (hc j x hx i v hv)⟩
theorem TAt.of_row {w : World} {base : Nat} {v : Value} {ts : List Tk} (h : w.ownsRow base 44 11 v ts.length (cellsT ts)) : ∃ a c, v = .slice a ts.length c ∧ TAt w a ts := by
  rcases h.2 with ⟨rfl, h0⟩ | ⟨g, cap, cur, rfl, hb, hg, hn, hc, hs, ht⟩
  · exact ⟨none, 0, by rw [h0], .inl (List.eq_nil_of_length_eq_zero h0)⟩
  · refine ⟨_, _, rfl, .inr ⟨g, 0, rfl, (Array.getElem?_eq_some_iff.1 hg).1, fun j x hx i v hv => ?_⟩⟩
    have hj : j < ts.length := (List.getElem?_eq_some_iff.1 hx).1
    have hi : i < 11 := by have := (List.getElem?_eq_some_iff.1 hv).1; rwa [encT_length] at this
    have h1 := cellsT_get ts j i x v hx hv
    rw [← ht, List.getElem?_take_of_lt (by omega), Array.getElem?_toList] at h1
    rw [Go.Joins.cell_of_block hg, Nat.zero_add]
    exact h1

def isHash (t : Tk) : Bool := t.first && (t.text.toList == [35])
def isIncl (t : Tk) : Bool := !t.first && (t.text.toList == [105, 110, 99, 108, 117, 100, 101])
/-- Whether tokens end with a line's # and include. -/
def behindT (ts : List Tk) : Bool := decide (2 ≤ ts.length) && isHash (ts.getD (ts.length - 2) ⟨0, ⟨#[]⟩, false, false, 0, 0, 0, 0⟩) && isIncl (ts.getD (ts.length - 1) ⟨0, ⟨#[]⟩, false, false, 0, 0, 0, 0⟩)

end
end Go.Proofs.Ytkfbhknhjpmomaa
