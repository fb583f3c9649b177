/- Walk of the statements' own SameFiles, at two lists of the same files: it returns true. -/
import Derived.Test.YthklodlhbafehaaDoorData
namespace Go.Proofs.YthklodlhbafehaaDoor
open Go.RowKit Go.Shelf

set_option maxRecDepth 100000 in
set_option maxHeartbeats 1000000 in
theorem Same_any (a1 a2 : Option Addr) (c1 c2 : Nat) (fs : List Src) (w : World) (hF : FAt w a1 fs) (hG : FAt w a2 fs) (hn : fs.length ≤ maxLen) :
    Calls Tryd.prog 19 #[.slice a1 fs.length c1, .slice a2 fs.length c2] w fun e w' => e = .returned (.bool true) ∧ Below w.heap.size w w' := by
  unfold maxLen at hn
  go_enter Tryd.func19, Tryd.ntmps19
  go_wp2_with fail
  go_loopw [5, 13] (fun _ i wr => ∃ j : Nat, j ≤ fs.length ∧ i = .int .i64 j ∧ Hid (Below w.heap.size w wr)) (fun _ i _ => fs.length - (intOf i).toNat)
  case atStart => exact ⟨0, Nat.zero_le _, rfl, Below.refl _ _⟩
  case round =>
    obtain ⟨j, hj, rfl, HB⟩ := hrel
    by_cases hlt : j < fs.length
    · have hgx : fs[j]? = some fs[j] := List.getElem?_eq_getElem hlt
      rcases id hF with h0 | ⟨b, off, rfl, hb, hc⟩
      · rw [h0] at hlt; simp at hlt
      rcases id hG with h0 | ⟨b2, off2, rfl, hb2, hd⟩
      · rw [h0] at hlt; simp at hlt
      obtain ⟨c0, c1⟩ := hc j fs[j] hgx
      obtain ⟨d0, d1⟩ := hd j fs[j] hgx
      rw [← HB.out.cell (p := ⟨b, _, none⟩) hb] at c0 c1
      rw [← HB.out.cell (p := ⟨b2, _, none⟩) hb2] at d0 d1
      generalize fs[j] = x at c0 c1 d0 d1
      obtain ⟨px, tx⟩ := x
      dsimp only at c0 c1 d0 d1
      clear hc hd hgx
      go_wp2_with fail
      go_quiet (fail)
      go_wp2
      go_roundw
      case rel => exact ⟨j + 1, by omega, by go_num, below_drewN HB.out _⟩
      case measure => simp [intOf]; omega
    · go_wp2_with fail
      go_ret
      exact ⟨rfl, HB.out⟩

end Go.Proofs.YthklodlhbafehaaDoor
