/- What the rows of Cond lay: the library's two errors, and its table of powers of ten. -/
import Derived.Test.YtkphogfmkempnacDoorCmA
import Derived.Stop.LaidErr
import Derived.LaidSub
import Derived.Lib.LaidTab
import Derived.Lib.ItoaNum
namespace Go.Proofs.YtkphogfmkempnacDoor
open Go.RowKit

/-- The library's table of powers of ten lies as it was laid. -/
def Pw (w : World) : Prop := Lib.TabIs Tryd.prog w "internal/strconv.uint64pow10" .u64 Lib.pow10Tab
theorem Pw.below {w w' : World} (h : Pw w) (hb : Below w.heap.size w w') : Pw w' := Go.Joins.tab_stays (g := 2) (by kernel_rfl) h hb (Nat.le_refl _)

theorem star_name : "*" ++ "errors.errorString" = "*errors.errorString" := by decide
theorem row_err (u : TypeId) (h : Tryd.prog.typeName? 3 u = some "*errors.errorString") : u = 117 :=
  typeName_ptr_named (nm := "errors.errorString") (by rw [star_name]; kernel_rfl) (by kernel_rfl) (by decide) u (by rw [star_name]; exact h)
theorem laid_syn : (Rows.condParensRow.laid).filter (fun x => x.1 == "strconv.ErrSyntax") = [("strconv.ErrSyntax", .iface "*errors.errorString" (.ptr (.agg [.lit (.string [105, 110, 118, 97, 108, 105, 100, 32, 115, 121, 110, 116, 97, 120])])))] := by kernel_rfl
theorem laid_ran : (Rows.condParensRow.laid).filter (fun x => x.1 == "strconv.ErrRange") = [("strconv.ErrRange", .iface "*errors.errorString" (.ptr (.agg [.lit (.string [118, 97, 108, 117, 101, 32, 111, 117, 116, 32, 111, 102, 32, 114, 97, 110, 103, 101])])))] := by kernel_rfl
theorem laid_pow : (Rows.condParensRow.laid).filter (fun x => x.1 == "internal/strconv.uint64pow10") = [("internal/strconv.uint64pow10", Lib.tabData .u64 Lib.pow10Tab)] := by kernel_rfl
theorem ev_of {W : World} (hL : laidMet Tryd.prog Rows.condParensRow.laid W) : Ev W := by
  constructor
  · have h := hL.filter (fun x => x.1 == "strconv.ErrSyntax")
    rw [laid_syn] at h
    obtain ⟨a0, s0, hv0, -, -, -⟩ := laid_sentinel h (g := 0) (ti := 44) (by kernel_rfl) (by kernel_rfl) Tryd.underlying44 row_err Tryd.underlying117 Tryd.underlying119 rfl rfl Tryd.underlying9 (by kernel_rfl) (by kernel_rfl)
    have h0 := World.var?_cell (g := 0) (by kernel_rfl) hv0 0
    exact ⟨_, by simpa using h0, .inr ⟨_, _, rfl⟩⟩
  · have h := hL.filter (fun x => x.1 == "strconv.ErrRange")
    rw [laid_ran] at h
    obtain ⟨a0, s0, hv0, -, -, -⟩ := laid_sentinel h (g := 1) (ti := 44) (by kernel_rfl) (by kernel_rfl) Tryd.underlying44 row_err Tryd.underlying117 Tryd.underlying119 rfl rfl Tryd.underlying9 (by kernel_rfl) (by kernel_rfl)
    have h0 := World.var?_cell (g := 1) (by kernel_rfl) hv0 0
    exact ⟨_, by simpa using h0, .inr ⟨_, _, rfl⟩⟩
theorem pw_of {W : World} (hL : laidMet Tryd.prog Rows.condParensRow.laid W) : Pw W := by
  have h := hL.filter (fun x => x.1 == "internal/strconv.uint64pow10")
  rw [laid_pow] at h
  exact Lib.tabIs_of_head (g := 2) (t := ((Tryd.prog.globals[2]?).map (·.type)).getD 0) (e := 42) (n := 20) (by kernel_rfl) (by kernel_rfl) (by kernel_rfl) (by kernel_rfl) (by kernel_rfl) (by kernel_rfl) h
end Go.Proofs.YtkphogfmkempnacDoor
