/- Walk of the statements' own toks. -/
import Derived.Test.YtedmcefckcmheaaGreatDoorRxJoin
import Derived.Test.YtedmcefckcmheaaGreatDoorLxC
namespace Go.Proofs.YtedmcefckcmheaaGreatDoor
open Go.RowKit Go.Shelf

/-- The closed fact, as it is asked. -/
def McLive : Prop := ∀ w : World, Env w → Calls Tryz.prog 27 #[] w fun e w' => e = .returned (.bool true) ∧ Below w.heap.size w w'
/-- What toks answers. -/
def ToksPost (l : List UInt8) (w : World) (e : Ending) (w' : World) : Prop := ∃ a c, e = .returned (.slice a (toksF 0 l).1.length c) ∧ TAt w' a (toksF 0 l).1 ∧ Below w.heap.size w w' ∧ (toksF 0 l).1.length ≤ c
set_option maxRecDepth 100000 in
set_option maxHeartbeats 1000000 in
theorem toks_any (HR : RToks) (s : ByteArray) (w : World) : Calls Tryz.prog 8 #[.string s] w (ToksPost s.data.toList w) := by
  have HT := hid (HR 0 s w)
  unfold TokPost faultV at HT
  clear HR
  unfold ToksPost
  generalize (toksF 0 s.data.toList).1 = ts at HT ⊢
  go_enter Tryz.func8, Tryz.ntmps8
  go_wp2_with fail
  refine HT.out.mono ?_
  rintro e w1 ⟨a, c, rfl, hT, hb1, hcap⟩
  have HT1 := hid hT
  have HB1 := hid hb1
  have HC := hid hcap
  clear hT hb1 hcap HT
  go_wp2_with fail
  go_ret
  exact ⟨a, c, rfl, HT1.out.below ((Below.refl _ w1).alloc (Nat.le_refl _) _), HB1.out.trans (((Below.refl _ w1).alloc (Nat.le_refl _) _).mono HB1.out.size), HC.out⟩
end Go.Proofs.YtedmcefckcmheaaGreatDoor
