/- Walk of the function that gives out pieces, one by one. -/
import Derived.Test.YtienjifhkmekcaaDoorLxPieces
namespace Go.Proofs.YtienjifhkmekcaaDoor
open Go.RowKit Go.Shelf

theorem pick_nonneg : ∀ (ss : List (Int × Int)), 0 ≤ (pick ss).2
  | [] => by simp [pick]
  | (k, n) :: r => by
    unfold pick
    split
    · simp
    · split
      · simp only; omega
      · exact pick_nonneg r

theorem pick_bound (N : Int) (hN : 1 ≤ N) : ∀ (ss : List (Int × Int)), (∀ p ∈ ss, p.2 ≤ N) → (pick ss).2 ≤ N
  | [], _ => by simp [pick]; omega
  | (k, n) :: r, h => by
    have h0 := h (k, n) (by simp)
    unfold pick
    split
    · simp only; omega
    · split
      · exact h0
      · exact pick_bound N hN r (fun p hp => h p (by simp [hp]))

/-- The piece that comes next, of kind 0 at the end, of kind -1 where one has no end. -/
def nextPc (s : List UInt8) (i : Nat) (inc : Bool) : Pc :=
  let g := skip s i false (i == 0)
  if g.lacks then ⟨-1, g.to, 0, false, false⟩
  else if s.length ≤ g.to then ⟨0, 0, 0, false, false⟩
  else let m := pick (sizes (s.drop g.to) (!g.first && inc)); ⟨m.1, g.to, g.to + m.2.toNat, g.space, g.first⟩
/-- And where the next one is looked for. -/
def nextAt (s : List UInt8) (i : Nat) (inc : Bool) : Nat :=
  let g := skip s i false (i == 0)
  if g.lacks then g.to
  else if s.length ≤ g.to then g.to
  else g.to + (pick (sizes (s.drop g.to) (!g.first && inc))).2.toNat
def pieceV (p : Pc) : Value := .agg #[.int .i64 p.kind, .int .i64 (p.lo : Int), .int .i64 (p.hi : Int), .bool p.space, .bool p.first]

/-- The two variables that turn. -/
def turnX (H : Nat) : Nat → Prop := fun k => k = H + 2 ∨ k = H + 3

theorem block_facts {w : World} {b : Nat} {c : Array Value} {T : TypeId} (h : w.heap[b]? = some (.cells c T)) : ∀ i, w.cell? ⟨b, i, none⟩ = c[i]? ∧ w.frozen? ⟨b, i, none⟩ = false := by
  intro i
  simp [World.cell?, World.frozen?, h]

theorem lt_of_block {w : World} {b : Nat} {o : Obj} (h : w.heap[b]? = some o) : b < w.heap.size := (Array.getElem?_eq_some_iff.1 h).1

theorem five_set {w : World} {g : Nat} {a0 a1 a2 a3 a4 : Value} {T : TypeId} (h : w.heap[g]? = some (.cells #[a0, a1, a2, a3, a4] T)) (x0 x1 x2 x3 x4 : Value) :
    (((((w.setCell ⟨g, 0, none⟩ x0).setCell ⟨g, 1, none⟩ x1).setCell ⟨g, 2, none⟩ x2).setCell ⟨g, 3, none⟩ x3).setCell ⟨g, 4, none⟩ x4).heap[g]? = some (.cells #[x0, x1, x2, x3, x4] T) := by
  have h0 := Go.Joins.block_setCell (i := 0) h x0
  have h1 := Go.Joins.block_setCell (i := 1) h0 x1
  have h2 := Go.Joins.block_setCell (i := 2) h1 x2
  have h3 := Go.Joins.block_setCell (i := 3) h2 x3
  have h4 := Go.Joins.block_setCell (i := 4) h3 x4
  simpa using h4
theorem five_far (w : World) (g k : Nat) (x0 x1 x2 x3 x4 : Value) (hne : k ≠ g) :
    (((((w.setCell ⟨g, 0, none⟩ x0).setCell ⟨g, 1, none⟩ x1).setCell ⟨g, 2, none⟩ x2).setCell ⟨g, 3, none⟩ x3).setCell ⟨g, 4, none⟩ x4).heap[k]? = w.heap[k]? := by
  rw [Below.heap_setCell _ _ _ _ hne, Below.heap_setCell _ _ _ _ hne, Below.heap_setCell _ _ _ _ hne, Below.heap_setCell _ _ _ _ hne, Below.heap_setCell _ _ _ _ hne]
theorem five_kept {X : Nat → Prop} {w0 w : World} {g : Nat} (h : Kept X w0 w) (hx : X g) (x0 x1 x2 x3 x4 : Value) :
    Kept X w0 (((((w.setCell ⟨g, 0, none⟩ x0).setCell ⟨g, 1, none⟩ x1).setCell ⟨g, 2, none⟩ x2).setCell ⟨g, 3, none⟩ x3).setCell ⟨g, 4, none⟩ x4) :=
  ((((h.setCell (a := ⟨g, 0, none⟩) hx x0).setCell (a := ⟨g, 1, none⟩) hx x1).setCell (a := ⟨g, 2, none⟩) hx x2).setCell (a := ⟨g, 3, none⟩) hx x3).setCell (a := ⟨g, 4, none⟩) hx x4

/-- A block beyond those that lay may turn. -/
theorem Kept.setFar {X : Nat → Prop} {w0 w : World} (h : Kept X w0 w) {a : Addr} (hg : w0.heap.size ≤ a.block) (v : Value) : Kept X w0 (w.setCell a v) :=
  ⟨h.os, h.tape, h.output, by simp; exact h.size, fun k hk hx => (Below.heap_setCell w a v k (by omega)).trans (h.block k hk hx)⟩

theorem Mx.kept {H : Nat} {w W : World} (h : Mx w) (hg : 4 < H) (hk : Kept (turnX H) w W) : Mx W := by
  obtain ⟨m, hm⟩ := h
  refine ⟨m, ?_⟩
  rw [hk.cell (p := ⟨4, 0, none⟩) (World.block_lt_of_cell? _ _ hm) (fun h => by rcases h with h | h <;> (simp only at h; omega))]
  exact hm

theorem nextPc_lacks {s : List UInt8} {i k : Nat} {sp fi inc : Bool} (h : skip s i false (i == 0) = ⟨k, sp, fi, true⟩) : nextPc s i inc = ⟨-1, k, 0, false, false⟩ ∧ nextAt s i inc = k := by
  unfold nextPc nextAt; rw [h]; exact ⟨rfl, rfl⟩
theorem nextPc_end {s : List UInt8} {i k : Nat} {sp fi inc : Bool} (h : skip s i false (i == 0) = ⟨k, sp, fi, false⟩) (hk : s.length ≤ k) : nextPc s i inc = ⟨0, 0, 0, false, false⟩ ∧ nextAt s i inc = k := by
  unfold nextPc nextAt; rw [h]
  exact ⟨if_pos hk, if_pos hk⟩
theorem nextPc_one {s : List UInt8} {i k : Nat} {sp fi inc : Bool} (h : skip s i false (i == 0) = ⟨k, sp, fi, false⟩) (hk : ¬ s.length ≤ k) :
    nextPc s i inc = ⟨(pick (sizes (s.drop k) (!fi && inc))).1, k, k + (pick (sizes (s.drop k) (!fi && inc))).2.toNat, sp, fi⟩ ∧ nextAt s i inc = k + (pick (sizes (s.drop k) (!fi && inc))).2.toNat := by
  unfold nextPc nextAt; rw [h]
  exact ⟨if_neg hk, if_neg hk⟩

theorem skipF_zero (l : List UInt8) (f k : Nat) (sp fi : Bool) (hf : 0 < f) (h : blankSz (l.drop k) = 0) : skipF l f k sp fi = ⟨k, sp, fi, false⟩ := by
  cases f with
  | zero => omega
  | succ f => unfold skipF; rw [if_pos h]
theorem skipF_lacks (l : List UInt8) (f k : Nat) (sp fi : Bool) (hf : 0 < f) (h : blankSz (l.drop k) = -1) : skipF l f k sp fi = ⟨k, sp, fi, true⟩ := by
  cases f with
  | zero => omega
  | succ f => unfold skipF; rw [if_neg (by omega), if_pos (by omega)]
theorem skipF_on (l : List UInt8) (f k n : Nat) (sp fi : Bool) (hf : 0 < f) (h : blankSz (l.drop k) = (n : Int)) (hn : 0 < n) : skipF l f k sp fi = skipF l (f - 1) (k + n) true (fi || byteAt l k == 10) := by
  cases f with
  | zero => omega
  | succ f =>
    have e : skipF l (f + 1) k sp fi = if blankSz (l.drop k) = 0 then ⟨k, sp, fi, false⟩ else if blankSz (l.drop k) < 0 then ⟨k, sp, fi, true⟩ else skipF l f (k + (blankSz (l.drop k)).toNat) true (fi || byteAt l k == 10) := rfl
    rw [e, h, if_neg (by omega), if_neg (by omega)]
    rfl

end Go.Proofs.YtienjifhkmekcaaDoor
