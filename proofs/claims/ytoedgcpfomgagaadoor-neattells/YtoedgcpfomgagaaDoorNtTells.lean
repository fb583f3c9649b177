/- Walk of NeatTells. -/
import Derived.Test.YtoedgcpfomgagaaDoorNtFormat
import Derived.Test.YtoedgcpfomgagaaDoorNtText
namespace Go.Proofs.YtoedgcpfomgagaaDoor
open Go.RowKit Go.Shelf

set_option maxRecDepth 100000 in
set_option maxHeartbeats 1000000 in
theorem NTells_of (hR : RToks) (s : ByteArray) (w : World) (hE : Env w) :
    Calls Tryd.prog 3 #[.string s] w fun e w' => e = .returned (.bool true) ∧ Below w.heap.size w w' := by
  have HT := hid (NText_any s w hE)
  have HF := hid (fun W => RFormat_of hR s W)
  unfold faultV at HT HF
  generalize neatF s.data.toList = nf at HT HF
  obtain ⟨o, f0, f1, f2⟩ := nf
  dsimp only at HT HF
  go_enter Tryd.func3, Tryd.ntmps3
  go_wp2_with fail
  refine HT.out.mono ?_
  rintro e w1 ⟨rfl, hb1⟩
  have HB1 := hid (hb1.alloc hb1.size (.cells #[.int .i64 f0, .int .i64 f1, .int .i64 f2] 24))
  have HX1 := hid (FNx.new w1 f0 f1 f2)
  clear hb1
  go_wp2_with fail
  generalize w1.alloc (.cells #[.int .i64 f0, .int .i64 f1, .int .i64 f2] 24) = w2 at HB1 HX1 ⊢
  refine (HF.out w2).mono ?_
  rintro e w3 ⟨rfl, hb3⟩
  have HX3 := hid (HX1.out.below hb3)
  have HB3 := hid (HB1.out.trans (hb3.mono HB1.out.size))
  have HB4 := hid (HB3.out.alloc HB3.out.size (.cells #[.int .i64 f0, .int .i64 f1, .int .i64 f2] 24))
  obtain ⟨x0, x1, x2, _⟩ := HX3.out.facts
  have hlt := lt_of_block HX3.out
  clear hb3 HX1 HB1 HF HT
  go_wp2_with fail
  go_ret
  exact ⟨by first | rfl | simp, HB4.out⟩
end Go.Proofs.YtoedgcpfomgagaaDoor
