/- Walk of the function that gives out pieces, one by one. -/
import Derived.Test.YteklakpfbkcegaaGreatDoorLxPieces
namespace Go.Proofs.YteklakpfbkcegaaGreatDoor
open Go.RowKit Go.Shelf

theorem pieces1_any (H g : Nat) (gcaps : Array Value) (fi inc : Bool) (w : World) (hP : w.cell? ⟨H + 3, 4, none⟩ = some (.bool fi)) (hI : w.cell? ⟨H + 1, 0, none⟩ = some (.func (.func g) #[] gcaps))
    (eg : ∀ args W, (callFunc g args).run Tryz.prog W = .ok (.enter g args) W) (hg : Calls Tryz.prog g gcaps w fun e w' => e = .returned (.bool inc) ∧ Below w.heap.size w w') :
    Calls Tryz.prog 82 #[.pointer (some ⟨H + 3, 0, none⟩), .pointer (some ⟨H + 1, 0, none⟩)] w fun e w' => e = .returned (.bool (!fi && inc)) ∧ Below w.heap.size w w' := by
  have HG := hid hg
  clear hg
  cases fi with
  | true =>
    go_enter Tryz.func82, Tryz.ntmps82
    go_wp2
    go_ret
    exact ⟨rfl, Below.refl _ _⟩
  | false =>
    go_enter Tryz.func82, Tryz.ntmps82
    go_wp2_with fail
    refine HG.out.mono ?_
    rintro e w1 ⟨rfl, hb1⟩
    have HB := hid hb1
    clear hb1
    go_wp2
    go_ret
    exact ⟨by simp, HB.out⟩

theorem pick_nonneg : ∀ (ss : List (Int × Int)), 0 ≤ (pick ss).2
  | [] => by simp [pick]
  | (k, n) :: r => by
    unfold pick
    split
    · simp
    · split
      · simp only; omega
      · exact pick_nonneg r

theorem pick_bound (N : Int) (hN : 1 ≤ N) : ∀ (ss : List (Int × Int)), (∀ p ∈ ss, p.2 ≤ N) → (pick ss).2 ≤ N
  | [], _ => by simp [pick]; omega
  | (k, n) :: r, h => by
    have h0 := h (k, n) (by simp)
    unfold pick
    split
    · simp only; omega
    · split
      · exact h0
      · exact pick_bound N hN r (fun p hp => h p (by simp [hp]))

/-- The piece that comes next, of kind 0 at the end, of kind -1 where one has no end. -/
def nextPc (s : List UInt8) (i : Nat) (inc : Bool) : Pc :=
  let g := skip s i false (i == 0)
  if g.lacks then ⟨-1, g.to, 0, false, false⟩
  else if s.length ≤ g.to then ⟨0, 0, 0, false, false⟩
  else let m := pick (sizes (s.drop g.to) (!g.first && inc)); ⟨m.1, g.to, g.to + m.2.toNat, g.space, g.first⟩
/-- And where the next one is looked for. -/
def nextAt (s : List UInt8) (i : Nat) (inc : Bool) : Nat :=
  let g := skip s i false (i == 0)
  if g.lacks then g.to
  else if s.length ≤ g.to then g.to
  else g.to + (pick (sizes (s.drop g.to) (!g.first && inc))).2.toNat
def pieceV (p : Pc) : Value := .agg #[.int .i64 p.kind, .int .i64 (p.lo : Int), .int .i64 (p.hi : Int), .bool p.space, .bool p.first]

/-- The two variables that turn. -/
def turnX (H : Nat) : Nat → Prop := fun k => k = H + 2 ∨ k = H + 3

theorem block_facts {w : World} {b : Nat} {c : Array Value} {T : TypeId} (h : w.heap[b]? = some (.cells c T)) : ∀ i, w.cell? ⟨b, i, none⟩ = c[i]? ∧ w.frozen? ⟨b, i, none⟩ = false := by
  intro i
  simp [World.cell?, World.frozen?, h]

/-- The variables while what is blank is passed by. -/
structure NSt (w0 : World) (H a p : Nat) (k : Nat) (sp fi : Bool) (w : World) : Prop where
  kept : Kept (turnX H) w0 w
  bA : w.heap[a]? = some (.cells #[.int .i64 (k : Int)] 3)
  bP : w.heap[p]? = some (.cells #[.int .i64 0, .int .i64 0, .int .i64 0, .bool sp, .bool fi] 107)
  bR : w.heap[w0.heap.size]? = some (.cells #[.int .i64 0, .int .i64 0, .int .i64 0, .bool false, .bool false] 107)

theorem lt_of_block {w : World} {b : Nat} {o : Obj} (h : w.heap[b]? = some o) : b < w.heap.size := (Array.getElem?_eq_some_iff.1 h).1

theorem NSt.below {w0 : World} {H a p k : Nat} {sp fi : Bool} {w w' : World} (h : NSt w0 H a p k sp fi w) (hb : Below w.heap.size w w') : NSt w0 H a p k sp fi w' :=
  ⟨h.kept.trans (kept_of_below hb), (hb.block _ (lt_of_block h.bA)).trans h.bA, (hb.block _ (lt_of_block h.bP)).trans h.bP, (hb.block _ (lt_of_block h.bR)).trans h.bR⟩

theorem five_set {w : World} {g : Nat} {a0 a1 a2 a3 a4 : Value} {T : TypeId} (h : w.heap[g]? = some (.cells #[a0, a1, a2, a3, a4] T)) (x0 x1 x2 x3 x4 : Value) :
    (((((w.setCell ⟨g, 0, none⟩ x0).setCell ⟨g, 1, none⟩ x1).setCell ⟨g, 2, none⟩ x2).setCell ⟨g, 3, none⟩ x3).setCell ⟨g, 4, none⟩ x4).heap[g]? = some (.cells #[x0, x1, x2, x3, x4] T) := by
  have h0 := Go.Joins.block_setCell (i := 0) h x0
  have h1 := Go.Joins.block_setCell (i := 1) h0 x1
  have h2 := Go.Joins.block_setCell (i := 2) h1 x2
  have h3 := Go.Joins.block_setCell (i := 3) h2 x3
  have h4 := Go.Joins.block_setCell (i := 4) h3 x4
  simpa using h4
theorem five_far (w : World) (g k : Nat) (x0 x1 x2 x3 x4 : Value) (hne : k ≠ g) :
    (((((w.setCell ⟨g, 0, none⟩ x0).setCell ⟨g, 1, none⟩ x1).setCell ⟨g, 2, none⟩ x2).setCell ⟨g, 3, none⟩ x3).setCell ⟨g, 4, none⟩ x4).heap[k]? = w.heap[k]? := by
  rw [Below.heap_setCell _ _ _ _ hne, Below.heap_setCell _ _ _ _ hne, Below.heap_setCell _ _ _ _ hne, Below.heap_setCell _ _ _ _ hne, Below.heap_setCell _ _ _ _ hne]
theorem five_kept {X : Nat → Prop} {w0 w : World} {g : Nat} (h : Kept X w0 w) (hx : X g) (x0 x1 x2 x3 x4 : Value) :
    Kept X w0 (((((w.setCell ⟨g, 0, none⟩ x0).setCell ⟨g, 1, none⟩ x1).setCell ⟨g, 2, none⟩ x2).setCell ⟨g, 3, none⟩ x3).setCell ⟨g, 4, none⟩ x4) :=
  ((((h.setCell (a := ⟨g, 0, none⟩) hx x0).setCell (a := ⟨g, 1, none⟩) hx x1).setCell (a := ⟨g, 2, none⟩) hx x2).setCell (a := ⟨g, 3, none⟩) hx x3).setCell (a := ⟨g, 4, none⟩) hx x4

/-- A block beyond those that lay may turn. -/
theorem Kept.setFar {X : Nat → Prop} {w0 w : World} (h : Kept X w0 w) {a : Addr} (hg : w0.heap.size ≤ a.block) (v : Value) : Kept X w0 (w.setCell a v) :=
  ⟨h.os, h.tape, h.output, by simp; exact h.size, fun k hk hx => (Below.heap_setCell w a v k (by omega)).trans (h.block k hk hx)⟩

theorem nst_start {w : World} {H a p i : Nat} (hp : turnX H p) (hap : a ≠ p) (hA : w.heap[a]? = some (.cells #[.int .i64 (i : Int)] 3)) {v0 v1 v2 v3 v4 : Value} (hP : w.heap[p]? = some (.cells #[v0, v1, v2, v3, v4] 107)) (fi : Bool) :
    NSt w H a p i false fi ((((((w.setCell ⟨p, 0, none⟩ (.int .i64 0)).setCell ⟨p, 1, none⟩ (.int .i64 0)).setCell ⟨p, 2, none⟩ (.int .i64 0)).setCell ⟨p, 3, none⟩ (.bool false)).setCell ⟨p, 4, none⟩ (.bool fi)).alloc
      (.cells #[.int .i64 0, .int .i64 0, .int .i64 0, .bool false, .bool false] 107)) := by
  have hk := five_kept (Kept.refl (turnX H) w) hp (.int .i64 0) (.int .i64 0) (.int .i64 0) (.bool false) (.bool fi)
  have hA' := (five_far w p a (.int .i64 0) (.int .i64 0) (.int .i64 0) (.bool false) (.bool fi) hap).trans hA
  have hP' := five_set hP (.int .i64 0) (.int .i64 0) (.int .i64 0) (.bool false) (.bool fi)
  have hz : (((((w.setCell ⟨p, 0, none⟩ (.int .i64 0)).setCell ⟨p, 1, none⟩ (.int .i64 0)).setCell ⟨p, 2, none⟩ (.int .i64 0)).setCell ⟨p, 3, none⟩ (.bool false)).setCell ⟨p, 4, none⟩ (.bool fi)).heap.size = w.heap.size := by simp
  generalize (((((w.setCell ⟨p, 0, none⟩ (.int .i64 0)).setCell ⟨p, 1, none⟩ (.int .i64 0)).setCell ⟨p, 2, none⟩ (.int .i64 0)).setCell ⟨p, 3, none⟩ (.bool false)).setCell ⟨p, 4, none⟩ (.bool fi)) = W at *
  have hb := (Below.refl W.heap.size W).alloc (Nat.le_refl _) (.cells #[.int .i64 0, .int .i64 0, .int .i64 0, .bool false, .bool false] 107)
  have hn := heap_alloc_new W (.cells #[.int .i64 0, .int .i64 0, .int .i64 0, .bool false, .bool false] 107)
  rw [hz] at hn
  exact ⟨hk.trans (kept_of_below hb), (hb.block _ (lt_of_block hA')).trans hA', (hb.block _ (lt_of_block hP')).trans hP', hn⟩

theorem NSt.step {w0 : World} {H a p k : Nat} {sp fi : Bool} {w : World} (h : NSt w0 H a p k sp fi w) (ha : turnX H a) (hp : turnX H p) (hap : a ≠ p) (hR1 : a < w0.heap.size) (hR2 : p < w0.heap.size) (k' : Nat) (fi' : Bool) :
    NSt w0 H a p k' true fi' (((w.setCell ⟨p, 3, none⟩ (.bool true)).setCell ⟨p, 4, none⟩ (.bool fi')).setCell ⟨a, 0, none⟩ (.int .i64 (k' : Int))) := by
  refine ⟨((h.kept.setCell (a := ⟨p, 3, none⟩) hp _).setCell (a := ⟨p, 4, none⟩) hp _).setCell (a := ⟨a, 0, none⟩) ha _, ?_, ?_, ?_⟩
  · have h1 : ((w.setCell ⟨p, 3, none⟩ (.bool true)).setCell ⟨p, 4, none⟩ (.bool fi')).heap[a]? = some (.cells #[.int .i64 (k : Int)] 3) := by
      rw [Below.heap_setCell _ _ _ _ hap, Below.heap_setCell _ _ _ _ hap]; exact h.bA
    simpa using Go.Joins.block_setCell (i := 0) h1 (.int .i64 (k' : Int))
  · rw [Below.heap_setCell _ _ _ _ (Ne.symm hap)]
    have h1 := Go.Joins.block_setCell (i := 3) h.bP (.bool true)
    have h2 := Go.Joins.block_setCell (i := 4) h1 (.bool fi')
    simpa using h2
  · rw [Below.heap_setCell _ _ _ _ (by simp only; omega), Below.heap_setCell _ _ _ _ (by simp only; omega), Below.heap_setCell _ _ _ _ (by simp only; omega)]; exact h.bR

theorem piece_ret {f : Func} (hr : f.results = #[.cell 4 107]) {w : World} {g : Nat} {x0 x1 x2 x3 x4 : Value} (hR : w.heap[g]? = some (.cells #[x0, x1, x2, x3, x4] 107)) (tmps : Array Value) (hp : tmps.getD 4 undef = .pointer (some ⟨g, 0, none⟩)) :
    (results f tmps).run Tryz.prog w = .ok (.agg #[x0, x1, x2, x3, x4]) w :=
  results_cell_row hr tmps _ g 107 #[x0, x1, x2, x3, x4] (0, 0) _ hp hR Tryz.underlying107 rfl (by kernel_rfl)

/-- The variables stand, whatever the result's own block holds. -/
theorem pst_of {w0 : World} {H k' : Nat} {w' : World} {s : ByteArray} {gv : Value} {i : Nat} {v0 v1 v2 v3 v4 : Value} (hst : PSt w0 H s gv i) (hk : Kept (turnX H) w0 w')
    (bA : w'.heap[H + 2]? = some (.cells #[.int .i64 (k' : Int)] 3)) (bP : w'.heap[H + 3]? = some (.cells #[v0, v1, v2, v3, v4] 107)) : PSt w' H s gv k' := by
  have hz := hst.size
  have N : ∀ j, j ≠ 2 → j ≠ 3 → ¬ turnX H (H + j) := fun j h2 h3 h => by rcases h with h | h <;> omega
  refine ⟨Nat.lt_of_lt_of_le hz hk.size, ?_, ?_, bA, ⟨_, _, _, _, _, bP⟩, ?_, hst.made.kept hk (fun j hj => by rcases hj with h | h <;> omega)⟩
  · rw [hk.cell (p := ⟨H, 0, none⟩) (by simp only; omega) (N 0 (by omega) (by omega))]; exact hst.cS
  · rw [hk.cell (p := ⟨H + 1, 0, none⟩) (by simp only; omega) (N 1 (by omega) (by omega))]; exact hst.cI
  · rw [hk.cell (p := ⟨H + 10, 0, none⟩) (by simp only; omega) (N 10 (by omega) (by omega))]; exact hst.cAll
theorem Mx.kept {H : Nat} {w W : World} (h : Mx w) (hg : 0 < H) (hk : Kept (turnX H) w W) : Mx W := by
  obtain ⟨m, hm⟩ := h
  refine ⟨m, ?_⟩
  rw [hk.cell (p := ⟨0, 0, none⟩) (World.block_lt_of_cell? _ _ hm) (fun h => by rcases h with h | h <;> (simp only at h; omega))]
  exact hm

/-- What the walk asks of the variables. -/
theorem NSt.facts {w0 : World} {H a p k : Nat} {sp fi : Bool} {w : World} (h : NSt w0 H a p k sp fi w) :
    (w.cell? ⟨a, 0, none⟩ = some (.int .i64 (k : Int)) ∧ w.frozen? ⟨a, 0, none⟩ = false) ∧ (w.cell? ⟨p, 3, none⟩ = some (.bool sp) ∧ w.frozen? ⟨p, 3, none⟩ = false) ∧ (w.cell? ⟨p, 4, none⟩ = some (.bool fi) ∧ w.frozen? ⟨p, 4, none⟩ = false) ∧
    (∀ i, i < 5 → (w.cell? ⟨p, i, none⟩).isSome = true ∧ w.frozen? ⟨p, i, none⟩ = false) ∧ (a < w.heap.size ∧ p < w.heap.size ∧ w0.heap.size < w.heap.size) := by
  refine ⟨?_, ?_, ?_, fun i hi => ?_, lt_of_block h.bA, lt_of_block h.bP, lt_of_block h.bR⟩
  · simpa using block_facts h.bA 0
  · simpa using block_facts h.bP 3
  · simpa using block_facts h.bP 4
  · obtain ⟨h1, h2⟩ := block_facts h.bP i
    refine ⟨?_, h2⟩
    rw [h1]
    match i, hi with
    | 0, _ => rfl
    | 1, _ => rfl
    | 2, _ => rfl
    | 3, _ => rfl
    | 4, _ => rfl

theorem end_res {w wr : World} {H : Nat} {s : ByteArray} {gv : Value} {i k' : Nat} {v0 v1 v2 v3 v4 r0 r1 r2 r3 r4 : Value} (hst : PSt w H s gv i) (hk : Kept (turnX H) w wr) (bA : wr.heap[H + 2]? = some (.cells #[.int .i64 (k' : Int)] 3)) (bP : wr.heap[H + 3]? = some (.cells #[v0, v1, v2, v3, v4] 107))
    (bR : wr.heap[w.heap.size]? = some (.cells #[r0, r1, r2, r3, r4] 107)) (x0 x1 x2 x3 x4 : Value) :
    PSt (((((wr.setCell ⟨w.heap.size, 0, none⟩ x0).setCell ⟨w.heap.size, 1, none⟩ x1).setCell ⟨w.heap.size, 2, none⟩ x2).setCell ⟨w.heap.size, 3, none⟩ x3).setCell ⟨w.heap.size, 4, none⟩ x4) H s gv k' ∧
    Kept (turnX H) w (((((wr.setCell ⟨w.heap.size, 0, none⟩ x0).setCell ⟨w.heap.size, 1, none⟩ x1).setCell ⟨w.heap.size, 2, none⟩ x2).setCell ⟨w.heap.size, 3, none⟩ x3).setCell ⟨w.heap.size, 4, none⟩ x4) ∧
    (((((wr.setCell ⟨w.heap.size, 0, none⟩ x0).setCell ⟨w.heap.size, 1, none⟩ x1).setCell ⟨w.heap.size, 2, none⟩ x2).setCell ⟨w.heap.size, 3, none⟩ x3).setCell ⟨w.heap.size, 4, none⟩ x4).heap[w.heap.size]? = some (.cells #[x0, x1, x2, x3, x4] 107) := by
  have hz := hst.size
  have hK : Kept (turnX H) w (((((wr.setCell ⟨w.heap.size, 0, none⟩ x0).setCell ⟨w.heap.size, 1, none⟩ x1).setCell ⟨w.heap.size, 2, none⟩ x2).setCell ⟨w.heap.size, 3, none⟩ x3).setCell ⟨w.heap.size, 4, none⟩ x4) :=
    ((((hk.setFar (a := ⟨w.heap.size, 0, none⟩) (Nat.le_refl _) x0).setFar (a := ⟨w.heap.size, 1, none⟩) (Nat.le_refl _) x1).setFar (a := ⟨w.heap.size, 2, none⟩) (Nat.le_refl _) x2).setFar (a := ⟨w.heap.size, 3, none⟩) (Nat.le_refl _) x3).setFar (a := ⟨w.heap.size, 4, none⟩) (Nat.le_refl _) x4
  have f1 := (five_far wr w.heap.size (H + 2) x0 x1 x2 x3 x4 (by omega)).trans bA
  have f2 := (five_far wr w.heap.size (H + 3) x0 x1 x2 x3 x4 (by omega)).trans bP
  exact ⟨pst_of hst hK f1 f2, hK, five_set bR x0 x1 x2 x3 x4⟩

theorem nextPc_lacks {s : List UInt8} {i k : Nat} {sp fi inc : Bool} (h : skip s i false (i == 0) = ⟨k, sp, fi, true⟩) : nextPc s i inc = ⟨-1, k, 0, false, false⟩ ∧ nextAt s i inc = k := by
  unfold nextPc nextAt; rw [h]; exact ⟨rfl, rfl⟩
theorem nextPc_end {s : List UInt8} {i k : Nat} {sp fi inc : Bool} (h : skip s i false (i == 0) = ⟨k, sp, fi, false⟩) (hk : s.length ≤ k) : nextPc s i inc = ⟨0, 0, 0, false, false⟩ ∧ nextAt s i inc = k := by
  unfold nextPc nextAt; rw [h]
  exact ⟨if_pos hk, if_pos hk⟩
theorem nextPc_one {s : List UInt8} {i k : Nat} {sp fi inc : Bool} (h : skip s i false (i == 0) = ⟨k, sp, fi, false⟩) (hk : ¬ s.length ≤ k) :
    nextPc s i inc = ⟨(pick (sizes (s.drop k) (!fi && inc))).1, k, k + (pick (sizes (s.drop k) (!fi && inc))).2.toNat, sp, fi⟩ ∧ nextAt s i inc = k + (pick (sizes (s.drop k) (!fi && inc))).2.toNat := by
  unfold nextPc nextAt; rw [h]
  exact ⟨if_neg hk, if_neg hk⟩

theorem skipF_zero (l : List UInt8) (f k : Nat) (sp fi : Bool) (hf : 0 < f) (h : blankSz (l.drop k) = 0) : skipF l f k sp fi = ⟨k, sp, fi, false⟩ := by
  cases f with
  | zero => omega
  | succ f => unfold skipF; rw [if_pos h]
theorem skipF_lacks (l : List UInt8) (f k : Nat) (sp fi : Bool) (hf : 0 < f) (h : blankSz (l.drop k) = -1) : skipF l f k sp fi = ⟨k, sp, fi, true⟩ := by
  cases f with
  | zero => omega
  | succ f => unfold skipF; rw [if_neg (by omega), if_pos (by omega)]
theorem skipF_on (l : List UInt8) (f k n : Nat) (sp fi : Bool) (hf : 0 < f) (h : blankSz (l.drop k) = (n : Int)) (hn : 0 < n) : skipF l f k sp fi = skipF l (f - 1) (k + n) true (fi || byteAt l k == 10) := by
  cases f with
  | zero => omega
  | succ f =>
    have e : skipF l (f + 1) k sp fi = if blankSz (l.drop k) = 0 then ⟨k, sp, fi, false⟩ else if blankSz (l.drop k) < 0 then ⟨k, sp, fi, true⟩ else skipF l f (k + (blankSz (l.drop k)).toNat) true (fi || byteAt l k == 10) := rfl
    rw [e, h, if_neg (by omega), if_neg (by omega)]
    rfl

set_option maxRecDepth 100000 in
set_option maxHeartbeats 2000000 in
theorem next_any (H g : Nat) (gcaps : Array Value) (s : ByteArray) (i : Nat) (inc : Bool) (w : World) (hst : PSt w H s (.func (.func g) #[] gcaps) i) (hM : Mx w) (hgl : 0 < H) (hi : i ≤ s.size) (hs : s.size ≤ 1048576)
    (eg : ∀ args W, (callFunc g args).run Tryz.prog W = .ok (.enter g args) W) (hg : ∀ W, Kept (turnX H) w W → Calls Tryz.prog g gcaps W fun e w' => e = .returned (.bool inc) ∧ Below W.heap.size W w') :
    Calls Tryz.prog 83 #[.pointer (some ⟨H + 2, 0, none⟩), .pointer (some ⟨H + 3, 0, none⟩), .pointer (some ⟨H, 0, none⟩), .pointer (some ⟨H + 10, 0, none⟩)] w fun e w' =>
      e = .returned (pieceV (nextPc s.data.toList i inc)) ∧ PSt w' H s (.func (.func g) #[] gcaps) (nextAt s.data.toList i inc) ∧ Kept (turnX H) w w' := by
  obtain ⟨v0, v1, v2, v3, v4, hbP⟩ := hst.bP
  have hA := block_facts hst.bA 0
  have hP0 := block_facts hbP 0
  have hP1 := block_facts hbP 1
  have hP2 := block_facts hbP 2
  have hP3 := block_facts hbP 3
  have hP4 := block_facts hbP 4
  have hcS := hst.cS
  have hR := hst.size
  simp at hA hP0 hP1 hP2 hP3 hP4
  obtain ⟨a1, a2⟩ := hA
  obtain ⟨p01, p02⟩ := hP0
  obtain ⟨p11, p12⟩ := hP1
  obtain ⟨p21, p22⟩ := hP2
  obtain ⟨p31, p32⟩ := hP3
  obtain ⟨p41, p42⟩ := hP4
  have HST := hid hst
  have HG := hid hg
  have HBA := hid hst.bA
  have HBP := hid hbP
  have HM := hid hM
  have HBl := hid (fun (S : ByteArray) W (h : Mx W) hs => blankSize_any S W h hs)
  clear hst hM hg hbP
  obtain ⟨a, hae⟩ : ∃ a, H + 2 = a := ⟨_, rfl⟩
  obtain ⟨p, hpe⟩ : ∃ p, H + 3 = p := ⟨_, rfl⟩
  obtain ⟨c, hce⟩ : ∃ c, H + 10 = c := ⟨_, rfl⟩
  rw [hae] at a1 a2 HBA ⊢
  rw [hpe] at p01 p02 p11 p12 p21 p22 p31 p32 p41 p42 HBP ⊢
  rw [hce] at hR ⊢
  have HXa : Hid (turnX H a) := Or.inl hae.symm
  have HXp : Hid (turnX H p) := Or.inr hpe.symm
  have n1 : a ≠ w.heap.size := by omega
  have n2 : p ≠ w.heap.size := by omega
  have n3 : H ≠ w.heap.size := by omega
  have m1 : a < w.heap.size := by omega
  have m2 : p < w.heap.size := by omega
  have m3 : H < w.heap.size := by omega
  have n4 : a ≠ p := by omega
  have n5 : H ≠ p := by omega
  have n6 : H ≠ a := by omega
  have HAE := hid hae
  have HPE := hid hpe
  have HCE := hid hce
  clear hae hpe hce
  go_enter Tryz.func83, Tryz.ntmps83
  go_wp2_with fail
  have HN0 := hid (nst_start (H := H) (i := i) HXp.out n4 HBA.out HBP.out ((i : Int) == 0))
  refine (HBl.out _ _ (HM.out.kept hgl HN0.out.kept) (by simp [ByteArray.size_extract]; omega)).mono ?_
  rintro e w1 ⟨rfl, hb1⟩
  have HN1 := hid (HN0.out.below hb1)
  have HD : Hid ((s.extract i s.size).data.toList = s.data.toList.drop i) := by show _ = _; rw [extract_data, ← size_data s, List.take_length]
  rw [HD.out]
  clear hb1 HN0 HD a1 a2 p01 p02 p11 p12 p21 p22 p31 p32 p41 p42 hcS
  have HI0 : Hid (((i : Int) == 0) = (i == 0)) := by show _ = _; apply bool_ext; simp
  rw [HI0.out] at HN1
  clear HI0
  have HZ := hid (size_data s)
  go_wp2_with fail
  go_loopg [5] (s.size - i) (fun g x wr => ∃ (k f : Nat) (sp fi : Bool), k + g = s.size ∧ x = .int .i64 (blankSz (s.data.toList.drop k)) ∧ Hid (s.size < k + f ∧ skip s.data.toList i false (i == 0) = skipF s.data.toList f k sp fi ∧ NSt w H a p k sp fi wr))
  case atStart => exact ⟨i, s.size + 1 - i, false, i == 0, by omega, rfl, by omega, by unfold skip; rw [HZ.out], HN1.out⟩
  case round =>
    clear HN1
    obtain ⟨k, f, sp, fi, hkg, rfl, HR⟩ := hrel
    have hkf := HR.out.1
    have HSk := hid HR.out.2.1
    have HN := hid HR.out.2.2
    clear HR
    obtain ⟨⟨a1, a2⟩, ⟨p31, p32⟩, ⟨p41, p42⟩, hp5, q1, q2, q3⟩ := HN.out.facts
    have hcS : wr.cell? ⟨H, 0, none⟩ = some (.string s) := (HN.out.kept.cell (p := ⟨H, 0, none⟩) m3 (fun h => by rcases h with h | h <;> (simp only at h; omega))).trans HST.out.cS
    have hr0 := block_facts HN.out.bR 0
    have hr1 := block_facts HN.out.bR 1
    have hr2 := block_facts HN.out.bR 2
    have hr3 := block_facts HN.out.bR 3
    have hr4 := block_facts HN.out.bR 4
    simp at hr0 hr1 hr2 hr3 hr4
    obtain ⟨r01, r02⟩ := hr0
    obtain ⟨r11, r12⟩ := hr1
    obtain ⟨r21, r22⟩ := hr2
    obtain ⟨r31, r32⟩ := hr3
    obtain ⟨r41, r42⟩ := hr4
    rcases hbl : blankSz_le (s.data.toList.drop k) with hb | ⟨hb1, hb2⟩
    · have HL := hid (nextPc_lacks (inc := inc) (HSk.out.trans (skipF_lacks _ f k sp fi (by omega) hb)))
      rw [hb]
      clear hp5 hbl
      have HEnd := hid (end_res HST.out HN.out.kept (by rw [HAE.out]; exact HN.out.bA) (by rw [HPE.out]; exact HN.out.bP) HN.out.bR (.int .i64 (-1)) (.int .i64 (k : Int)) (.int .i64 0) (.bool false) (.bool false))
      go_wp2
      refine bodyPost_ret (piece_ret rfl HEnd.out.2.2 _ rfl) rfl ⟨?_, ?_, HEnd.out.2.1⟩
      · rw [HL.out.1]; rfl
      · rw [HL.out.2]; exact HEnd.out.1
    · obtain ⟨n, hn⟩ : ∃ n : Nat, blankSz (s.data.toList.drop k) = n := ⟨(blankSz (s.data.toList.drop k)).toNat, by omega⟩
      rw [hn] at hb2
      rw [List.length_drop, HZ.out] at hb2
      have HN' := hid hn
      rw [hn]
      clear hb1 hbl hn
      by_cases hn0 : n = 0
      · subst hn0
        have HG2 := hid (HSk.out.trans (skipF_zero _ f k sp fi (by omega) HN'.out))
        rw [show (((0 : Nat) : Int)) = 0 from rfl]
        clear hp5 HSk HN'
        by_cases hke : k = s.size
        · have HL := hid (nextPc_end (inc := inc) HG2.out (by rw [HZ.out]; omega))
          have HEnd := hid (end_res HST.out HN.out.kept (by rw [HAE.out]; exact HN.out.bA) (by rw [HPE.out]; exact HN.out.bP) HN.out.bR (.int .i64 0) (.int .i64 0) (.int .i64 0) (.bool false) (.bool false))
          have hkb : ((k : Int) == (s.size : Int)) = true := by rw [hke]; simp
          clear hke
          go_wp2
          refine bodyPost_ret (piece_ret rfl HEnd.out.2.2 _ rfl) rfl ⟨?_, ?_, HEnd.out.2.1⟩
          · rw [HL.out.1]; rfl
          · rw [HL.out.2]; exact HEnd.out.1
        · have HL := hid (nextPc_one (inc := inc) HG2.out (by rw [HZ.out]; omega))
          have hkb : ((k : Int) == (s.size : Int)) = false := by simp; omega
          have hkl : k ≤ s.size := by omega
          have hcA : wr.cell? ⟨c, 0, none⟩ = some (.slice (some ⟨H + 9, 0, none⟩) 6 6) := by
            rw [← HCE.out, HN.out.kept.cell (p := ⟨H + 10, 0, none⟩) HST.out.size (fun h => by rcases h with h | h <;> (simp only at h; omega))]; exact HST.out.cAll
          have n7 : c ≠ p := by have := HCE.out; have := HPE.out; omega
          have n8 : c ≠ a := by have := HCE.out; have := HAE.out; omega
          have hp0 := block_facts HN.out.bP 0
          have hp1 := block_facts HN.out.bP 1
          have hp2 := block_facts HN.out.bP 2
          simp at hp0 hp1 hp2
          obtain ⟨p01, p02⟩ := hp0
          obtain ⟨p11, p12⟩ := hp1
          obtain ⟨p21, p22⟩ := hp2
          have kept1 := HN.out.kept.setCell (a := ⟨p, 1, none⟩) HXp.out (.int .i64 (k : Int))
          have made1 := HST.out.made.kept kept1 (fun j hj => by rcases hj with h | h <;> omega)
          have bP1 : (wr.setCell ⟨p, 1, none⟩ (.int .i64 (k : Int))).heap[p]? = some (.cells #[.int .i64 0, .int .i64 (k : Int), .int .i64 0, .bool sp, .bool fi] 107) := by simpa using Go.Joins.block_setCell (i := 1) HN.out.bP (.int .i64 (k : Int))
          have bA1 : (wr.setCell ⟨p, 1, none⟩ (.int .i64 (k : Int))).heap[a]? = some (.cells #[.int .i64 (k : Int)] 3) := (Below.heap_setCell _ _ _ _ n4).trans HN.out.bA
          have bR1 : (wr.setCell ⟨p, 1, none⟩ (.int .i64 (k : Int))).heap[w.heap.size]? = some (.cells #[.int .i64 0, .int .i64 0, .int .i64 0, .bool false, .bool false] 107) := (Below.heap_setCell _ _ _ _ (Ne.symm n2)).trans HN.out.bR
          have HMe : Hid (Calls Tryz.prog 85 #[.slice (some ⟨H + 9, 0, none⟩) 6 6, .string s, .int .i64 (k : Int)] (wr.setCell ⟨p, 1, none⟩ (.int .i64 (k : Int))) fun e w' => e = .returned (.tuple #[.int .i64 (pick (sizes (s.data.toList.drop k) (!fi && inc))).1, .int .i64 ((k : Int) + (pick (sizes (s.data.toList.drop k) (!fi && inc))).2)]) ∧ Below (wr.setCell ⟨p, 1, none⟩ (.int .i64 (k : Int))).heap.size (wr.setCell ⟨p, 1, none⟩ (.int .i64 (k : Int))) w') := by
            have hd : (s.extract k s.size).data.toList = s.data.toList.drop k := by rw [extract_data, ← size_data s, List.take_length]
            have hfit := made1.fits (s.extract k s.size) (by simp [ByteArray.size_extract]; omega) (!fi && inc) (enters_of Tryz.func82 (by kernel_rfl) rfl) (fun W hW => pieces1_any H g gcaps fi inc W
              (by rw [hW.cell (p := ⟨H + 3, 4, none⟩) (by rw [HPE.out]; exact lt_of_block bP1), HPE.out, (block_facts bP1 4).1]; rfl)
              (by rw [hW.cell (p := ⟨H + 1, 0, none⟩) (Nat.lt_of_lt_of_le (by have := HST.out.size; simp only; omega) kept1.size), kept1.cell (p := ⟨H + 1, 0, none⟩) (by have := HST.out.size; simp only; omega) (fun h => by rcases h with h | h <;> (simp only at h; omega))]; exact HST.out.cI)
              eg (HG.out W (kept1.trans (kept_of_below hW))))
            have := measure_any (H + 9) 6 k (theShapes (H + 4) (H + 7) (H + 8) (H + 6) (s.extract k s.size).data.toList (!fi && inc)) s _ (made1.shAt _ _) (by show 6 ≤ 1000; omega) hkl hs hfit
            rw [shapes_sizes, hd] at this
            exact this
          have hm2 := pick_nonneg (sizes (s.data.toList.drop k) (!fi && inc))
          have hm3 : (pick (sizes (s.data.toList.drop k) (!fi && inc))).2 ≤ 1048576 := by
            refine pick_bound _ (by omega) _ (fun e he => ?_)
            have h1 := (sizes_of _ _ e he).2
            rw [List.length_drop, HZ.out] at h1
            omega
          have HK1 := hid kept1
          have HP1 := hid bP1
          have HA1 := hid bA1
          have HR1 := hid bR1
          generalize pick (sizes (s.data.toList.drop k) (!fi && inc)) = m at HMe HL hm2 hm3
          obtain ⟨m1', m2'⟩ := m
          dsimp only at HMe HL hm2 hm3
          obtain ⟨q, rfl⟩ : ∃ q : Nat, m2' = q := ⟨m2'.toNat, by omega⟩
          clear kept1 made1 bP1 bA1 bR1
          go_wp2_with fail
          refine HMe.out.mono ?_
          rintro e w2 ⟨rfl, hb2⟩
          have hK2 := HK1.out.trans (kept_of_below hb2)
          have hP2 := (hb2.block _ (lt_of_block HP1.out)).trans HP1.out
          have hA2 := (hb2.block _ (lt_of_block HA1.out)).trans HA1.out
          have hR2 := (hb2.block _ (lt_of_block HR1.out)).trans HR1.out
          clear a1 a2 p01 p02 p11 p12 p21 p22 p31 p32 p41 p42 r01 r02 r11 r12 r21 r22 r31 r32 r41 r42 hcS hcA HMe q1 q2 q3 hb2 HK1 HP1 HA1 HR1 HN
          have hp0 := block_facts hP2 0
          have hp1 := block_facts hP2 1
          have hp2 := block_facts hP2 2
          have hp3 := block_facts hP2 3
          have hp4 := block_facts hP2 4
          have ha0 := block_facts hA2 0
          have hr0 := block_facts hR2 0
          have hr1 := block_facts hR2 1
          have hr2 := block_facts hR2 2
          have hr3 := block_facts hR2 3
          have hr4 := block_facts hR2 4
          simp at hp0 hp1 hp2 hp3 hp4 ha0 hr0 hr1 hr2 hr3 hr4
          obtain ⟨p01, p02⟩ := hp0
          obtain ⟨p11, p12⟩ := hp1
          obtain ⟨p21, p22⟩ := hp2
          obtain ⟨p31, p32⟩ := hp3
          obtain ⟨p41, p42⟩ := hp4
          obtain ⟨a1, a2⟩ := ha0
          obtain ⟨r01, r02⟩ := hr0
          obtain ⟨r11, r12⟩ := hr1
          obtain ⟨r21, r22⟩ := hr2
          obtain ⟨r31, r32⟩ := hr3
          obtain ⟨r41, r42⟩ := hr4
          have q1 := lt_of_block hA2
          have q2 := lt_of_block hP2
          have q3 := lt_of_block hR2
          have hK3 := ((hK2.setCell (a := ⟨p, 0, none⟩) HXp.out (.int .i64 m1')).setCell (a := ⟨p, 2, none⟩) HXp.out (.int .i64 ((k + q : Nat) : Int))).setCell (a := ⟨a, 0, none⟩) HXa.out (.int .i64 ((k + q : Nat) : Int))
          have hP3 : (((w2.setCell ⟨p, 0, none⟩ (.int .i64 m1')).setCell ⟨p, 2, none⟩ (.int .i64 ((k + q : Nat) : Int))).setCell ⟨a, 0, none⟩ (.int .i64 ((k + q : Nat) : Int))).heap[p]? = some (.cells #[.int .i64 m1', .int .i64 (k : Int), .int .i64 ((k + q : Nat) : Int), .bool sp, .bool fi] 107) := by
            rw [Below.heap_setCell _ _ _ _ (Ne.symm n4)]
            have h1 := Go.Joins.block_setCell (i := 0) hP2 (.int .i64 m1')
            have h2 := Go.Joins.block_setCell (i := 2) h1 (.int .i64 ((k + q : Nat) : Int))
            simpa using h2
          have hA3 : (((w2.setCell ⟨p, 0, none⟩ (.int .i64 m1')).setCell ⟨p, 2, none⟩ (.int .i64 ((k + q : Nat) : Int))).setCell ⟨a, 0, none⟩ (.int .i64 ((k + q : Nat) : Int))).heap[a]? = some (.cells #[.int .i64 ((k + q : Nat) : Int)] 3) := by
            have h1 : ((w2.setCell ⟨p, 0, none⟩ (.int .i64 m1')).setCell ⟨p, 2, none⟩ (.int .i64 ((k + q : Nat) : Int))).heap[a]? = some (.cells #[.int .i64 (k : Int)] 3) := by
              rw [Below.heap_setCell _ _ _ _ n4, Below.heap_setCell _ _ _ _ n4]; exact hA2
            simpa using Go.Joins.block_setCell (i := 0) h1 (.int .i64 ((k + q : Nat) : Int))
          have hR3 : (((w2.setCell ⟨p, 0, none⟩ (.int .i64 m1')).setCell ⟨p, 2, none⟩ (.int .i64 ((k + q : Nat) : Int))).setCell ⟨a, 0, none⟩ (.int .i64 ((k + q : Nat) : Int))).heap[w.heap.size]? = some (.cells #[.int .i64 0, .int .i64 0, .int .i64 0, .bool false, .bool false] 107) := by
            rw [Below.heap_setCell _ _ _ _ (Ne.symm n1), Below.heap_setCell _ _ _ _ (Ne.symm n2), Below.heap_setCell _ _ _ _ (Ne.symm n2)]; exact hR2
          have HEnd := hid (end_res HST.out hK3 (by rw [HAE.out]; exact hA3) (by rw [HPE.out]; exact hP3) hR3 (.int .i64 m1') (.int .i64 (k : Int)) (.int .i64 ((k + q : Nat) : Int)) (.bool sp) (.bool fi))
          push_cast at HEnd
          clear hK3 hP3 hA3 hR3 hP2 hA2 hR2 hK2
          go_wp2
          refine bodyPost_ret (piece_ret rfl HEnd.out.2.2 _ rfl) rfl ⟨?_, ?_, HEnd.out.2.1⟩
          · rw [HL.out.1]; simp [pieceV]
          · rw [HL.out.2]; simp only [Int.toNat_natCast]; exact HEnd.out.1
      · have hkl : k < s.size := by omega
        have hkn : k + n ≤ s.size := by omega
        have hnp : 0 < n := by omega
        have hnb : ((n : Int) != 0) = true := by simp; omega
        have hnc : ((n : Int) == -1) = false := by simp
        have HFs : Hid (skip s.data.toList i false (i == 0) = skipF s.data.toList (f - 1) (k + n) true (fi || byteAt s.data.toList k == 10)) := HSk.out.trans (skipF_on _ f k n sp fi (by omega) HN'.out (by omega))
        rw [← byte_at s k hkl] at HFs
        have HD : Hid ((s.extract (k + n) s.size).data.toList = s.data.toList.drop (k + n)) := by show _ = _; rw [extract_data, ← size_data s, List.take_length]
        cases fi with
        | true =>
          have HNs := hid (HN.out.step HXa.out HXp.out n4 m1 m2 (k + n) true)
          have HMs := hid (HM.out.kept hgl HNs.out.kept)
          push_cast at HNs HMs
          clear hp5 hn0
          go_wp2_with fail
          refine (HBl.out _ _ HMs.out (by simp [ByteArray.size_extract]; omega)).mono ?_
          rintro e w1 ⟨rfl, hb1⟩
          have HN1 := hid (HNs.out.below hb1)
          rw [HD.out]
          clear hb1 HNs HMs
          go_wp2
          go_roundg (gk - n)
          case measure => omega
          case rel => exact ⟨k + n, f - 1, true, true, by omega, rfl, by omega, HFs.out, HN1.out⟩
        | false =>
          have HNs := hid (HN.out.step HXa.out HXp.out n4 m1 m2 (k + n) ((s[k].toNat : Int) == 10))
          have HMs := hid (HM.out.kept hgl HNs.out.kept)
          have HFs2 : Hid (skip s.data.toList i false (i == 0) = skipF s.data.toList (f - 1) (k + n) true ((s[k].toNat : Int) == 10)) := by
            show _ = _
            rw [HFs.out]
            congr 1
            rw [Bool.false_or]
            apply bool_ext
            simp only [beq_iff_eq, u8i]
            rfl
          push_cast at HNs HMs
          clear hp5 hn0 HFs
          go_wp2_with fail
          refine (HBl.out _ _ HMs.out (by simp [ByteArray.size_extract]; omega)).mono ?_
          rintro e w1 ⟨rfl, hb1⟩
          have HN1 := hid (HNs.out.below hb1)
          rw [HD.out]
          clear hb1 HNs HMs
          go_wp2
          go_roundg (gk - n)
          case measure => omega
          case rel => exact ⟨k + n, f - 1, true, _, by omega, rfl, by omega, HFs2.out, HN1.out⟩
end Go.Proofs.YteklakpfbkcegaaGreatDoor
