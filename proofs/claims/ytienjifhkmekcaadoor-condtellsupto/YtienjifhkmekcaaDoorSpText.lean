/- Walk of Text: which bytes stay, and where they stood. -/
import Derived.Test.YtienjifhkmekcaaDoorSpGone
import Derived.Laws.MakeOwn
import Derived.Laws.IdiomStrings
import Derived.Deep.RegionHeld3
import Derived.Lib.SmallJoins
import Derived.Test.YtienjifhkmekcaaDoorStepApp
namespace Go.Proofs.YtienjifhkmekcaaDoor
open Go.RowKit

theorem info_u8 : (Tryd.prog.info? 5).map (fun i => (i.zero, i.size, i.bytes)) = some (some (.int .u8 0), 1, 1) := by kernel_rfl
theorem info_int : (Tryd.prog.info? 3).map (fun i => (i.zero, i.size, i.bytes)) = some (some (.int .i64 0), 1, 8) := by kernel_rfl

def cellsB (l : List UInt8) : List Value := l.map fun b => .int .u8 (b.toNat : Int)
def cellsI (l : List Nat) : List Value := l.map fun (b : Nat) => Value.int .i64 (b : Int)

theorem row_kind {w : World} {B : Nat} {e : TypeId} {size : Nat} {v : Value} {n : Nat} {xs : List Value} (h : w.ownsRow B e size v n xs) : ∀ g, v.ownBlock = some g → ∃ c fz, w.heap[g]? = some (.cells c e fz) := by
  intro g hg
  rcases h.2 with ⟨rfl, _⟩ | ⟨g', cap, cur, rfl, _, hh, _⟩
  · simp [Value.ownBlock] at hg
  · simp [Value.ownBlock] at hg; subst hg; exact ⟨_, _, hh⟩
theorem row_apart {w : World} {B B' : Nat} {e e' : TypeId} {k k' : Nat} {v v' : Value} {n n' : Nat} {xs xs' : List Value} (hee : e ≠ e') (h : w.ownsRow B e k v n xs) (h' : w.ownsRow B' e' k' v' n' xs') : v.ownBlock = none ∨ v.ownBlock ≠ v'.ownBlock := by
  cases hv : v.ownBlock with
  | none => exact .inl rfl
  | some g =>
    refine .inr fun hv' => ?_
    obtain ⟨c, fz, hc⟩ := row_kind h g hv
    obtain ⟨c', fz', hc'⟩ := row_kind h' g hv'.symm
    rw [hc] at hc'
    injection hc' with hc'
    injection hc' with _ he
    exact hee he
theorem row_slice {w : World} {base : Nat} {e : TypeId} {size : Nat} {v : Value} {n : Nat} {xs : List Value} (h : w.ownsRow base e size v n xs) : ∃ a m c, v = .slice a m c := by
  rcases h.2 with ⟨rfl, _⟩ | ⟨g, cap, cur, rfl, _⟩
  · exact ⟨_, _, _, rfl⟩
  · exact ⟨_, _, _, rfl⟩

theorem some_row {w : World} {base : Nat} {e : TypeId} {size : Nat} {v : Value} {n : Nat} {xs : List Value} (h : w.ownsRow base e size v n xs) (hne : v.ownBlock ≠ none) : ∃ g c, v = .slice (some ⟨g, 0, none⟩) n c := by
  rcases h.2 with ⟨rfl, _⟩ | ⟨g, cap, cur, rfl, _⟩
  · exact absurd rfl hne
  · exact ⟨_, _, rfl⟩
theorem pos_row {w : World} {base : Nat} {e : TypeId} {size : Nat} {v : Value} {n : Nat} {xs : List Value} (h : w.ownsRow base e size v (n + 1) xs) : v.ownBlock ≠ none := by
  rcases h.2 with ⟨_, h0⟩ | ⟨g, cap, cur, rfl, _⟩
  · omega
  · simp [Value.ownBlock]
theorem row_cell {w : World} {base : Nat} {e : TypeId} {g n c : Nat} {xs : List Value} (h : w.ownsRow base e 1 (.slice (some ⟨g, 0, none⟩) n c) n xs) (j : Nat) (u : Value) (hu : xs[j]? = some u) : w.cell? ⟨g, j, none⟩ = some u := by
  obtain ⟨hl, h⟩ := h
  rcases h with ⟨hv, _⟩ | ⟨g', cap, cur, hv, _, hg, h1, h2, h3, h4⟩
  · cases hv
  · cases hv
    rw [← h4, List.getElem?_take] at hu
    split at hu
    · simpa [World.cell?, hg] using hu
    · cases hu
theorem conv_row {w : World} {base g c : Nat} {l : List UInt8} {n : Nat} (h : w.ownsRow base 5 1 (.slice (some ⟨g, 0, none⟩) n c) n (cellsB l)) :
    (convert 65 9 (.slice (some ⟨g, 0, none⟩) n c)).run Tryd.prog w = .ok (.string ⟨l.toArray⟩) w := by
  have hn : n = l.length := by have := h.1; simp [cellsB] at this; omega
  subst hn
  refine run_convert_bytes_back w 65 9 5 ⟨g, 0, none⟩ c l Tryd.underlying65 Tryd.underlying5 Tryd.underlying9 (fun j hj => ?_)
  rw [Addr.add_lit, Nat.zero_add]
  exact row_cell h j _ (by simp [cellsB, hj])

/-- What holds at a round's head: what stays of what is behind lies in two rows of the call's own. -/
structure PassAt (l : List UInt8) (i : Nat) (ps : List Nat) (v1 v2 : Value) (w1 wr : World) : Prop where
  went : Went l i ps
  old : Below w1.heap.size w1 wr
  own1 : wr.ownsRow w1.heap.size 5 1 v1 ps.length (cellsB (bytesAt l ps))
  ne1 : v1.ownBlock ≠ none
  own2 : wr.ownsRow w1.heap.size 3 1 v2 ps.length (cellsI ps)

theorem one_new (w : World) (v : Value) (T : TypeId) : ∀ j x, [v][j]? = some x → (w.alloc (.cells #[v] T)).cell? ((⟨w.heap.size, 0, none⟩ : Addr).add j) = some x := by
  intro j x hx
  rw [Addr.add_lit, Nat.zero_add, World.cell?_alloc_mark]
  match j, hx with
  | 0, hx => simpa using hx

theorem PassAt.gone {l : List UInt8} {i : Nat} {ps : List Nat} {v1 v2 : Value} {w1 wr : World} (h : PassAt l i ps v1 v2 w1 wr) (hg : goneAt l i ≠ 0) : PassAt l (i + goneAt l i) ps v1 v2 w1 wr :=
  ⟨h.went.gone hg, h.old, h.own1, h.ne1, h.own2⟩

/-- Behind the first append of a round. -/
structure MidAt (l : List UInt8) (i : Nat) (ps : List Nat) (v1 v2 : Value) (w1 wr : World) : Prop where
  went : Went l (i + 1) (ps ++ [i])
  old : Below w1.heap.size w1 wr
  own1 : wr.ownsRow w1.heap.size 5 1 v1 (ps.length + 1) (cellsB (bytesAt l (ps ++ [i])))
  ne1 : v1.ownBlock ≠ none
  own2 : wr.ownsRow w1.heap.size 3 1 v2 ps.length (cellsI ps)

theorem PassAt.mid {l : List UInt8} {i : Nat} {ps : List Nat} {v1 v2 v' : Value} {w1 wr w2 : World} {X : Obj} {c : UInt8} (h : PassAt l i ps v1 v2 w1 wr) (hi : i < l.length) (hg0 : goneAt l i = 0) (hc : l[i]? = some c)
    (hown : w2.ownsRow w1.heap.size 5 1 v' (ps.length + 1) (cellsB (bytesAt l ps) ++ [.int .u8 (c.toNat : Int)])) (hg : (wr.alloc X).grownBy w2 v1.ownBlock) : MidAt l i ps v' v2 w1 w2 := by
  refine ⟨h.went.keep hi hg0, (h.old.alloc h.old.size X).grown hg (by have := h.old.size; simp; omega) (fun j e => (h.own1.lt j e).1), ?_, pos_row hown, ?_⟩
  · rw [bytesAt_snoc l ps i c hc, cellsB, List.map_append]; exact hown
  · exact (h.own2.alloc X).kept hg (row_apart (by decide) h.own2 h.own1)

theorem MidAt.next {l : List UInt8} {i : Nat} {ps : List Nat} {v1 v2 v' : Value} {w1 wr w2 : World} {X : Obj} (h : MidAt l i ps v1 v2 w1 wr)
    (hown : w2.ownsRow w1.heap.size 3 1 v' (ps.length + 1) (cellsI ps ++ [.int .i64 (i : Int)])) (hg : (wr.alloc X).grownBy w2 v2.ownBlock) : PassAt l (i + 1) (ps ++ [i]) v1 v' w1 w2 := by
  refine ⟨h.went, (h.old.alloc h.old.size X).grown hg (by have := h.old.size; simp; omega) (fun j e => (h.own2.lt j e).1), ?_, h.ne1, ?_⟩
  · rw [List.length_append]; exact (h.own1.alloc X).kept hg (row_apart (by decide) h.own1 h.own2)
  · rw [List.length_append, cellsI, List.map_append]; exact hown

/-- What a slice of numbers holds. -/
def IAt (w : World) (b : Nat) (l : List Nat) : Prop := b < w.heap.size ∧ ∀ (j : Nat) (h : j < l.length), w.cell? ⟨b, j, none⟩ = some (.int .i64 (l[j] : Int))

theorem undrew {w w2 : World} {r : Option Nat} (h : w.drew.grownBy w2 r) : w.grownBy w2 r := ⟨h.os, h.tape, h.output, h.size, h.block⟩

/-- The result's own block, as it was laid, behind the rounds and the last append. -/
theorem resAt {w1 wr w2 : World} {B : Nat} {a b : Value} {T : TypeId} {X : Obj} {size n : Nat} {e : TypeId} {v : Value} {xs : List Value} (h : w1.heap[B]? = some (.cells #[a, b] T)) (hb : Below w1.heap.size w1 wr) (hg : (wr.alloc X).grownBy w2 v.ownBlock) (hB : B + 1 = w1.heap.size)
    (hown : wr.ownsRow w1.heap.size e size v n xs) : w2.cell? ⟨B, 0, none⟩ = some a ∧ w2.cell? ⟨B, 1, none⟩ = some b ∧ w2.frozen? ⟨B, 0, none⟩ = false ∧ w2.frozen? ⟨B, 1, none⟩ = false ∧ w2.heap[B]? = some (.cells #[a, b] T) := by
  have hb2 : Below w1.heap.size w1 w2 := (hb.alloc hb.size X).grown hg (by have := hb.size; simp; omega) (fun j e => (hown.lt j e).1)
  have h2 : w2.heap[B]? = some (.cells #[a, b] T) := (hb2.block B (by omega)).trans h
  simp [World.cell?, World.frozen?, h2]

theorem text_end {l : List UInt8} {m : Nat} {ps : List Nat} {v1 v2 : Value} {w w1 wr w2 : World} {X : Obj} {g c : Nat} (h : PassAt l m ps v1 v2 w1 wr) (hb : Below w.heap.size w w1) (hB : w.heap.size + 1 = w1.heap.size) (hg : (wr.alloc X).grownBy w2 v2.ownBlock)
    (hown : w2.ownsRow w1.heap.size 3 1 (.slice (some ⟨g, 0, none⟩) (ps.length + 1) c) (ps.length + 1) (cellsI ps ++ [.int .i64 (m : Int)])) (x y : Value) :
    IAt ((w2.setCell ⟨w.heap.size, 0, none⟩ x).setCell ⟨w.heap.size, 1, none⟩ y) g (ps ++ [m]) ∧ Below w.heap.size w ((w2.setCell ⟨w.heap.size, 0, none⟩ x).setCell ⟨w.heap.size, 1, none⟩ y) := by
  have hb2 : Below w1.heap.size w1 w2 := (h.old.alloc h.old.size X).grown hg (by have := h.old.size; simp; omega) (fun j e => (h.own2.lt j e).1)
  have hown' := ownsRow_setCell_below (ownsRow_setCell_below hown (a := ⟨w.heap.size, 0, none⟩) (by rw [← hB]; simp) x) (a := ⟨w.heap.size, 1, none⟩) (by rw [← hB]; simp) y
  refine ⟨⟨(hown'.lt g rfl).2, fun j hj => row_cell hown' j _ ?_⟩, ((hb.trans (hb2.mono (by omega))).setCell (Nat.le_refl _) x).setCell (Nat.le_refl _) y⟩
  have : cellsI ps ++ [.int .i64 (m : Int)] = cellsI (ps ++ [m]) := by simp [cellsI]
  rw [this]
  simp only [cellsI, List.getElem?_map, List.getElem?_eq_getElem hj]
  rfl

/-- What is returned out of the result's own block. -/
theorem two_ret {f : Func} (hr : f.results = #[.cell 2 35]) {wr : World} {g : Nat} {x y u0 u1 : Value} (hR : wr.heap[g]? = some (.cells #[u0, u1] 35 (0, 0))) (tmps : Array Value) (hp : tmps.getD 2 undef = .pointer (some ⟨g, 0, none⟩)) :
    (results f tmps).run Tryd.prog ((wr.setCell ⟨g, 0, none⟩ x).setCell ⟨g, 1, none⟩ y) = .ok (.agg #[x, y]) ((wr.setCell ⟨g, 0, none⟩ x).setCell ⟨g, 1, none⟩ y) := by
  have h1 := Go.Joins.block_setCell (i := 0) hR x
  have h2 := Go.Joins.block_setCell (i := 1) h1 y
  refine results_cell_row hr tmps _ g 35 #[x, y] (0, 0) _ hp (by simpa using h2) Tryd.underlying35 rfl (by kernel_rfl)

end Go.Proofs.YtienjifhkmekcaaDoor
