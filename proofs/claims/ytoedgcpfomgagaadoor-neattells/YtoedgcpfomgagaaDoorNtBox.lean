/- A block that holds a fault; lines in memory, while a builder is written on. -/
import Derived.Test.YtoedgcpfomgagaaDoorNtBehind
import Derived.Test.YtoedgcpfomgagaaDoorNtShelf
import Derived.Test.YtoedgcpfomgagaaDoorLxBuild
namespace Go.Proofs.YtoedgcpfomgagaaDoor
open Go.RowKit Go.Shelf

/-- A block that holds a fault. -/
def FNx (w : World) (B : Nat) (e f g : Int) : Prop := w.heap[B]? = some (.cells #[.int .i64 e, .int .i64 f, .int .i64 g] 24)
theorem FNx.facts {w : World} {B : Nat} {e f g : Int} (h : FNx w B e f g) :
    w.cell? ⟨B, 0, none⟩ = some (.int .i64 e) ∧ w.cell? ⟨B, 1, none⟩ = some (.int .i64 f) ∧ w.cell? ⟨B, 2, none⟩ = some (.int .i64 g) ∧ w.frozen? ⟨B, 0, none⟩ = false ∧ w.frozen? ⟨B, 1, none⟩ = false ∧ w.frozen? ⟨B, 2, none⟩ = false := by
  unfold FNx at h
  simp [World.cell?, World.frozen?, h]
theorem FNx.new (w : World) (e f g : Int) : FNx (w.alloc (.cells #[.int .i64 e, .int .i64 f, .int .i64 g] 24)) w.heap.size e f g := heap_alloc_new w _
theorem FNx.below {w w' : World} {B : Nat} {e f g : Int} (h : FNx w B e f g) (hb : Below w.heap.size w w') : FNx w' B e f g := (hb.block B (lt_of_block h)).trans h
theorem FNx.low {w w' : World} {B base : Nat} {e f g : Int} (h : FNx w B e f g) (hb : Below base w w') (hB : B < base) : FNx w' B e f g := (hb.block B hB).trans h
theorem FNx.set {w : World} {B : Nat} {e f g : Int} (h : FNx w B e f g) (e' f' g' : Int) :
    FNx (((w.setCell ⟨B, 0, none⟩ (.int .i64 e')).setCell ⟨B, 1, none⟩ (.int .i64 f')).setCell ⟨B, 2, none⟩ (.int .i64 g')) B e' f' g' := by
  have h1 := Go.Joins.block_setCell (i := 0) h (.int .i64 e')
  have h2 := Go.Joins.block_setCell (i := 1) h1 (.int .i64 f')
  have h3 := Go.Joins.block_setCell (i := 2) h2 (.int .i64 g')
  unfold FNx
  simpa using h3
theorem FNx.drew {w : World} {B : Nat} {e f g : Int} (h : FNx w B e f g) : FNx w.drew B e f g := h
theorem FNx.frame {w w1 : World} {base B : Nat} (hb : Below base w w1) (hB : base ≤ B) (u v x : Value) : Below base w (((w1.setCell ⟨B, 0, none⟩ u).setCell ⟨B, 1, none⟩ v).setCell ⟨B, 2, none⟩ x) :=
  ((hb.setCell (p := ⟨B, 0, none⟩) hB u).setCell (p := ⟨B, 1, none⟩) hB v).setCell (p := ⟨B, 2, none⟩) hB x
theorem text_ret {W : World} {F : Nat} {e f g : Int} {v : Value} (hF : FNx W F e f g) (tmps : Array Value) (h2 : tmps.getD 2 undef = v) (h3 : tmps.getD 3 undef = .pointer (some ⟨F, 0, none⟩)) :
    (results Tryd.f6 tmps).run Tryd.prog W = .ok (.tuple #[v, .agg #[.int .i64 e, .int .i64 f, .int .i64 g]]) W := by
  obtain ⟨c0, c1, c2, _⟩ := hF.facts
  simp at h2 h3
  simp [results, Tryd.results6, go_sem, h2, h3, c0, c1, c2]
theorem format_ret {W : World} {F : Nat} {e f g : Int} {v : Value} (hF : FNx W F e f g) (tmps : Array Value) (h2 : tmps.getD 2 undef = v) (h3 : tmps.getD 3 undef = .pointer (some ⟨F, 0, none⟩)) :
    (results Tryd.f7 tmps).run Tryd.prog W = .ok (.tuple #[v, .agg #[.int .i64 e, .int .i64 f, .int .i64 g]]) W := by
  obtain ⟨c0, c1, c2, _⟩ := hF.facts
  simp at h2 h3
  simp [results, Tryd.results7, go_sem, h2, h3, c0, c1, c2]

/-- Lines in memory: rows of their own types. -/
structure LnHas (gs : List (List Tk)) (vs : List Value) (v : Value) (wr : World) : Prop where
  len : vs.length = gs.length
  outer : wr.ownsRow 0 29 1 v gs.length vs
  inner : ∀ (j : Nat) g u, gs[j]? = some g → vs[j]? = some u → wr.ownsRow 0 35 11 u g.length (cellsT g)
theorem owns_zero {w : World} {base : Nat} {e : TypeId} {size : Nat} {v : Value} {n : Nat} {xs : List Value} (h : w.ownsRow base e size v n xs) : w.ownsRow 0 e size v n xs := by
  refine ⟨h.1, ?_⟩
  rcases h.2 with h | ⟨g, cap, cur, hv, hg, r⟩
  · exact .inl h
  · exact .inr ⟨g, cap, cur, hv, Nat.zero_le _, r⟩
theorem LnSt.has {w : World} {gs : List (List Tk)} {vs : List Value} {v : Value} {wr : World} (h : LnSt w gs vs v wr) : LnHas gs vs v wr :=
  ⟨h.len, owns_zero h.outer, fun j g u hg hu => owns_zero (h.inner j g u hg hu)⟩
theorem LnHas.lat {gs : List (List Tk)} {vs : List Value} {v : Value} {wr : World} (h : LnHas gs vs v wr) : LAt wr v gs := by
  rcases h.outer.2 with ⟨rfl, h0⟩ | ⟨g, cap, cur, rfl, hb, hh, h1, h2, h3, h4⟩
  · exact ⟨none, 0, by rw [h0], .inl (List.eq_nil_of_length_eq_zero h0)⟩
  · refine ⟨_, _, rfl, .inr ⟨g, rfl, lt_of_block hh, fun j x hx => ?_⟩⟩
    have hj : j < gs.length := (List.getElem?_eq_some_iff.1 hx).1
    have hjv : j < vs.length := by rw [h.len]; exact hj
    obtain ⟨aj, cj, hv, hta⟩ := TAt.of_row (h.inner j x _ hx (List.getElem?_eq_getElem hjv))
    refine ⟨aj, cj, ?_, hta, row_cap (h.inner j x _ hx (List.getElem?_eq_getElem hjv)) hv⟩
    rw [← hv]
    exact row_cell h.outer j _ (List.getElem?_eq_getElem hjv)
theorem owns_types {w w' : World} {base : Nat} {e : TypeId} {size : Nat} {v : Value} {n : Nat} {xs : List Value} (h : w.ownsRow base e size v n xs)
    (hk : ∀ (k : Nat) cs fr, w.heap[k]? = some (Obj.cells cs e fr) → w'.heap[k]? = some (Obj.cells cs e fr)) : w'.ownsRow base e size v n xs := by
  refine ⟨h.1, ?_⟩
  rcases h.2 with h | ⟨g, cap, cur, hv, hg, hh, r⟩
  · exact .inl h
  · exact .inr ⟨g, cap, cur, hv, hg, hk _ _ _ hh, r⟩
theorem LnHas.below {gs : List (List Tk)} {vs : List Value} {v : Value} {wr wr' : World} (h : LnHas gs vs v wr) (hb : Below wr.heap.size wr wr') : LnHas gs vs v wr' :=
  ⟨h.len, owns_below h.outer hb, fun j g u hg hu => owns_below (h.inner j g u hg hu) hb⟩
theorem LnHas.types {gs : List (List Tk)} {vs : List Value} {v : Value} {wr wr' : World} (h : LnHas gs vs v wr) (B : Nat) (hB : ∀ cs t fr, wr.heap[B]? = some (.cells cs t fr) → t ≠ 29 ∧ t ≠ 35)
    (hk : ∀ k cs t fr, wr.heap[k]? = some (.cells cs t fr) → t ≠ 5 → k ≠ B → wr'.heap[k]? = some (.cells cs t fr)) : LnHas gs vs v wr' :=
  ⟨h.len, owns_types h.outer fun k cs fr hh => hk k cs _ fr hh (by decide) (fun e => (hB cs _ fr (e ▸ hh)).1 rfl), fun j g u hg hu => owns_types (h.inner j g u hg hu) fun k cs fr hh => hk k cs _ fr hh (by decide) (fun e => (hB cs _ fr (e ▸ hh)).2 rfl)⟩

/-- What Text has in memory: its fault, its builder, its lines. -/
structure NtSt (w : World) (B : Nat) (out : List UInt8) (gs : List (List Tk)) (vs : List Value) (v : Value) (wr : World) : Prop where
  old : Below w.heap.size w wr
  res : FNx wr w.heap.size 0 0 0
  lo : w.heap.size < B
  bld : Lib.IsBuilder 39 5 B B (Lib.byteCells out) wr
  lns : LnHas gs vs v wr
section
variable {w : World} {B : Nat} {out : List UInt8} {gs : List (List Tk)} {vs : List Value} {v : Value} {wr wr' : World}
theorem NtSt.hi (h : NtSt w B out gs vs v wr) : B < wr.heap.size := by
  rcases h.bld with h | h
  · exact h.lt
  · exact h.lt
theorem NtSt.below (h : NtSt w B out gs vs v wr) (hb : Below wr.heap.size wr wr') : NtSt w B out gs vs v wr' :=
  ⟨h.old.trans (hb.mono h.old.size), h.res.below hb, h.lo, IsBuilder.below h.bld hb, h.lns.below hb⟩
theorem NtSt.builder (h : NtSt w B out gs vs v wr) : ∀ cs t fr, wr.heap[B]? = some (.cells cs t fr) → t ≠ 29 ∧ t ≠ 35 := by
  intro cs t fr hh
  have key : t = 39 := by
    rcases h.bld with h | h
    · obtain ⟨_, v, hbk, _⟩ := h
      rw [hbk] at hh; cases hh; rfl
    · obtain ⟨_, v, hbk, _⟩ := h
      rw [hbk] at hh; cases hh; rfl
  subst key
  exact ⟨by decide, by decide⟩
theorem NtSt.write {out' : List UInt8} (h : NtSt w B out gs vs v wr) (hI : Lib.IsBuilder 39 5 B B (Lib.byteCells out') wr') (hb : Below B wr wr')
    (hk : ∀ k cs t fr, wr.heap[k]? = some (.cells cs t fr) → t ≠ 5 → k ≠ B → wr'.heap[k]? = some (.cells cs t fr)) : NtSt w B out' gs vs v wr' :=
  ⟨h.old.trans (hb.mono (Nat.le_of_lt h.lo)), h.res.low hb h.lo, h.lo, hI, h.lns.types B h.builder hk⟩
end
end Go.Proofs.YtoedgcpfomgagaaDoor
