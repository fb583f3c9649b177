/- Walk of Lines. -/
import Derived.Test.YtoedgcpfomgagaaDoorSpA
import Derived.Test.YtoedgcpfomgagaaDoorLxShelf
namespace Go.Proofs.YtoedgcpfomgagaaDoor
open Go.RowKit Go.Shelf

def clamp (k : Int) (n : Nat) : Nat := (min (max k 0) (n : Int)).toNat
def linesI (l : List UInt8) (k : Int) : Int := 1 + ((l.take (clamp k l.length)).count 10 : Nat)

set_option maxHeartbeats 400000 in
theorem Lines_any (s : ByteArray) (k : Int) (w : World) (hs : s.size ≤ 1048576) :
    Calls Tryd.prog 29 #[.string s, .int .i64 k] w fun e w' => e = .returned (.int .i64 (linesI s.data.toList k)) ∧ w' = w := by
  have HC := hid (Tryd.strings_Count_one (s.extract 0 (clamp k s.size)) 10 w)
  have HE := hid (show 1 + ((Lib.countByte (s.extract 0 (clamp k s.size)).data.toList 10 : Nat) : Int) = linesI s.data.toList k by
    rw [extract_data]; simp [linesI, Lib.countByte])
  have hle : Lib.countByte (s.extract 0 (clamp k s.size)).data.toList 10 ≤ 1048576 := by
    refine Nat.le_trans (List.count_le_length) ?_
    rw [extract_data]; simp; omega
  generalize Lib.countByte (s.extract 0 (clamp k s.size)).data.toList 10 = q at HC HE hle
  unfold clamp at HC
  go_enter Tryd.func29, Tryd.ntmps29
  go_wp2_with (go_at_call 47; refine HC.out.mono ?_; rintro e w' ⟨rfl, hww⟩; subst w')
  go_ret
  exact ⟨ret_int (by rw [← HE.out]), rfl⟩

end Go.Proofs.YtoedgcpfomgagaaDoor
