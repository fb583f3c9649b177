/- A slice of strings among the arguments. -/
import Derived.Test.YtedmcefckcmheaaGreatDoorMcA
import Derived.ProofKit
import Derived.OpenShut
import Derived.SliceStrings
namespace Go.Proofs.YtedmcefckcmheaaGreatDoor
open Go.ChangeShapes Go.WideShapes Go.ChangeAt Go.RowKit

theorem laidOutM : laidOutB Tryz.prog = true := by kernel_rfl
theorem cellsStrM : Tryz.prog.cellsOf 9 = 1 := by kernel_rfl
theorem spot_of {W : World} {a : Addr} {v : Value} (h : W.cell? a = some v) : ∃ b off, a = ⟨b, off, none⟩ := by
  obtain ⟨b, off, spot⟩ := a
  have hspot : spot = none := World.cell?_spot h
  subst hspot
  exact ⟨b, off, rfl⟩
theorem bulk_strs {H : Type} : ∀ ss : List ByteArray, Rows.uptoBulkAll (strs ss : List (DataW H)) = (ss.map fun s => s.size + 1).sum
  | [] => rfl
  | s :: r => by
    have ih := bulk_strs (H := H) r
    have hs : s.data.toList.length = s.size := by simp
    simp only [strs, List.map_cons, Rows.uptoBulkAll, Rows.uptoBulk, List.sum_cons, hs] at ih ⊢
    omega
set_option maxRecDepth 100000 in
theorem open_strs {H : Type} {enc : TypeId × Value → H} {W : World} {base : Nat} {v : Value} {d : DataW H} {p : List MemPlace} (hv : Value.okWide Tryz.prog W .any base 22 v) (h : DataW.Trod enc Tryz.prog W 0 (fun _ => true) true 22 v d p) :
    ∃ a cap ss, v = .slice a ss.length cap ∧ StAt W a ss ∧ ss.length ≤ maxLen ∧ (ss.map fun s => s.size + 1).sum ≤ Rows.uptoBulk d := by
  obtain ⟨a0, len0, cap0, rfl⟩ := okWide_slice Tryz.underlying22 hv
  obtain ⟨fuel, hf⟩ := h
  rcases open_strings Tryz.underlying22 Tryz.underlying9 cellsStrM hf with ⟨hcs, hx⟩ | ⟨a, len, cap, ss, hcs, _, hl, hm, hz, hx, hcell, hsz⟩
  · simp [Value.cells] at hcs
    obtain ⟨rfl, rfl, rfl⟩ := hcs
    exact ⟨none, 0, [], rfl, .inl rfl, by simp, by simp⟩
  · simp [Value.cells] at hcs
    obtain ⟨rfl, rfl, rfl⟩ := hcs
    simp only [if_true] at hz
    simp only [Prod.mk.injEq] at hx
    obtain ⟨rfl, _⟩ := hx
    have hlen : (ss.take len0).length = len0 := by rw [List.length_take]; omega
    refine ⟨some a, cap0, ss.take len0, by rw [hlen], ?_, by rw [hlen]; omega, ?_⟩
    · by_cases h0 : len0 = 0
      · subst h0; exact .inl (by simp)
      · have hc0 := hcell 0 (by omega)
        obtain ⟨b, off, rfl⟩ := spot_of (W := W) (a := a) (by simpa [Addr.add] using hc0)
        have hb := World.block_lt_of_cell? _ _ (by simpa [Addr.add] using hc0)
        refine .inr ⟨b, off, rfl, hb, fun j x hx => ?_⟩
        have hj : j < len0 := by have := (List.getElem?_eq_some_iff.1 hx).1; rwa [hlen] at this
        have hj2 : j < ss.length := by omega
        have := hcell j hj2
        rw [List.getElem?_take_of_lt hj] at hx
        simp only [Addr.add_lit] at this
        rw [this, List.getD, hx]
        rfl
    · simp only [Rows.uptoBulk]
      rw [bulk_strs]
      omega
end Go.Proofs.YtedmcefckcmheaaGreatDoor
