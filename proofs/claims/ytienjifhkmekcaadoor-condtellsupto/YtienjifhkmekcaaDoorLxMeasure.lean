/- Walk of measure: the first of some shapes that fits. -/
import Derived.Test.YtienjifhkmekcaaDoorLxBlank
import Derived.Test.YtienjifhkmekcaaDoorLater
import Derived.Laws.EntriesVeiled
namespace Go.Proofs.YtienjifhkmekcaaDoor
open Go.RowKit Go.Shelf

/-- A shape: its kind, the function that measures it with what that holds, and what it answers of the text at hand. -/
structure Shape where
  kind : Int
  fn : Nat
  caps : Array Value
  size : Int

def Shape.Fits (e : Shape) (s : ByteArray) (w : World) : Prop :=
  (∀ args W, (callFunc e.fn args).run Tryd.prog W = .ok (.enter e.fn args) W) ∧
  ∀ W, Below w.heap.size w W → Calls Tryd.prog e.fn (#[.string s] ++ e.caps) W fun r w' => r = .returned (.int .i64 e.size) ∧ Below W.heap.size W w'

/-- What a slice of shapes holds. -/
def ShAt (w : World) (b : Nat) (es : List Shape) : Prop :=
  b < w.heap.size ∧ ∀ (j : Nat) e, es[j]? = some e → w.cell? ⟨b, j * 2, none⟩ = some (.int .i64 e.kind) ∧ w.cell? ⟨b, j * 2 + 1, none⟩ = some (.func (.func e.fn) #[] e.caps)

def kindSize (e : Shape) : Int × Int := (e.kind, e.size)

theorem pick_cons (k n : Int) (r : List (Int × Int)) : pick ((k, n) :: r) = if n = -1 then (-1, 0) else if 0 < n then (k, n) else pick r := rfl

theorem ret_pair {a b c d : Int} (h1 : a = c) (h2 : b = d) : Ending.returned (.tuple #[.int .i64 a, .int .i64 b]) = .returned (.tuple #[.int .i64 c, .int .i64 d]) := by rw [h1, h2]

end Go.Proofs.YtienjifhkmekcaaDoor
