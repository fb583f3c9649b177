/- Plain facts for LexTells. -/
import Derived.Test.YtoedgcpfomgagaaDoorRxLines
import Derived.Test.YtoedgcpfomgagaaDoorRxJoin
import Derived.Test.YtoedgcpfomgagaaDoorRxPieces
import Derived.Test.YtoedgcpfomgagaaDoorLxC
import Derived.Test.YtoedgcpfomgagaaDoorLxA
namespace Go.Proofs.YtoedgcpfomgagaaDoor
open Go.RowKit Go.Shelf

theorem toks_few (file : Int) (l : List UInt8) : (toksF file l).1.length ≤ 3000 := by
  by_cases h : 3000 < l.length
  · unfold toksF; rw [if_pos h]; simp
  · rcases stands_len l (toksF file l).1 0 (toks_stand file l) with h1 | h1
    · omega
    · omega
theorem toks_small (file : Int) (l : List UInt8) : ∀ t ∈ (toksF file l).1, t.text.size ≤ 3000 := by
  by_cases h : 3000 < l.length
  · unfold toksF; rw [if_pos h]; intro t ht; cases ht
  · have key : ∀ (ts : List Tk) (A : Int), standsT l A ts → ∀ t ∈ ts, t.text.size ≤ 3000 := fun ts => by
      induction ts with
      | nil => intro A _ t ht; cases ht
      | cons x r ih =>
        intro A hs t ht
        obtain ⟨_, _, _, _, h5, h6⟩ := hs
        rcases List.mem_cons.1 ht with h | h
        · subst h
          have h7 := congrArg List.length h5
          rw [bytesAt_length, size_data] at h7
          have h8 := (went_kept ((l.take t.hi.toNat).drop t.lo.toNat)).few
          rw [List.length_drop, List.length_take] at h8
          omega
        · exact ih _ h6 t h
    exact key _ 0 (toks_stand file l)

end Go.Proofs.YtoedgcpfomgagaaDoor
