/- How files and edits lie in memory: what a slice of sources, or of edits, holds; that it holds it still in a world that has only grown. -/
import Derived.Test.YthklodlhbafehaaDoorClean
namespace Go.Proofs.YthklodlhbafehaaDoor
open Go.RowKit

abbrev Src := ByteArray × ByteArray
def encS (x : Src) : List Value := [.string x.1, .string x.2]

/-- The cells of a slice of sources at address a. -/
def FAt (w : World) (a : Option Addr) (fs : List Src) : Prop :=
  fs = [] ∨ ∃ b off, a = some ⟨b, off, none⟩ ∧ b < w.heap.size ∧ ∀ j x, fs[j]? = some x → w.cell? ⟨b, off + j * 2, none⟩ = some (.string x.1) ∧ w.cell? ⟨b, off + j * 2 + 1, none⟩ = some (.string x.2)

theorem FAt.below {w w' : World} {a : Option Addr} {fs : List Src} (h : FAt w a fs) (hb : Below w.heap.size w w') : FAt w' a fs := by
  rcases h with rfl | ⟨b, off, rfl, hlt, hc⟩
  · exact .inl rfl
  · refine .inr ⟨b, off, rfl, Nat.lt_of_lt_of_le hlt hb.size, fun j x hx => ?_⟩
    rw [hb.cell (p := ⟨b, _, none⟩) hlt, hb.cell (p := ⟨b, _, none⟩) hlt]
    exact hc j x hx

/-- The library's variable holds some int. -/
def Mx (w : World) : Prop := ∃ m, w.cell? ⟨0, 0, none⟩ = some (.int .i64 m)
theorem Mx.below {w w' : World} (h : Mx w) (hb : Below w.heap.size w w') : Mx w' := by
  obtain ⟨m, hm⟩ := h
  exact ⟨m, (hb.cell (p := ⟨0, 0, none⟩) (World.block_lt_of_cell? _ _ hm)).trans hm⟩

end Go.Proofs.YthklodlhbafehaaDoor
