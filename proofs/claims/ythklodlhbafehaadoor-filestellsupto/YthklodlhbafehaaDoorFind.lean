/- Walk of Find: a call returns the number of the first file of that path, or -1, and leaves all that lay in memory as it was. -/
import Derived.Test.YthklodlhbafehaaDoorWrong
import Derived.Lib.SliceRun
namespace Go.Proofs.YthklodlhbafehaaDoor
open Go.RowKit Go.Shelf

def isPath (path : ByteArray) (x : Src) : Bool := x.1.toList == path.toList
def findF (fs : List Src) (path : ByteArray) : Int := Lib.idxBy (fun _ y => isPath path y) fs default

/-- The closure of Find, in a world that holds path in its cell. -/
theorem findPred (path : ByteArray) (B : Nat) (w : World) (hB : B < w.heap.size) (hcell : w.cell? ⟨B, 0, none⟩ = some (.string path)) :
    PredBelow Tryd.prog 27 #[.pointer (some ⟨B, 0, none⟩)] (fun x => .agg (encS x).toArray) (isPath path) w := fun W x hb => by
  have hc : W.cell? ⟨B, 0, none⟩ = some (.string path) := (hb.cell (p := ⟨B, 0, none⟩) hB).trans hcell
  have hBW : B < W.heap.size := Nat.lt_of_lt_of_le hB hb.size
  have hne : B ≠ W.heap.size := by omega
  show Calls Tryd.prog 27 #[.agg #[.string x.1, .string x.2], .pointer (some ⟨B, 0, none⟩)] W _
  go_enter Tryd.func27, Tryd.ntmps27
  go_wp2
  go_ret
  exact ⟨rfl, hb.alloc hb.size _⟩

theorem indexFunc_none (a : Option Addr) (cap : Nat) (f : Value) (w : World) :
    Calls Tryd.prog 26 #[.slice a 0 cap, f] w fun e w' => e = .returned (.int .i64 (-1)) ∧ w' = w := by
  go_enter Tryd.func26, Tryd.ntmps26
  go_wp2
  go_loop [8] (fun i => i = .int .i64 0) (fun _ => 0)
  case atStart => rfl
  case round =>
    subst hrel
    go_wp2
    go_ret
    exact ⟨rfl, rfl⟩

set_option maxHeartbeats 1000000 in
theorem Find_any (a : Option Addr) (cap : Nat) (fs : List Src) (path : ByteArray) (w : World) (hF : FAt w a fs) (hn : fs.length ≤ maxLen) :
    Calls Tryd.prog 11 #[.slice a fs.length cap, .string path] w fun e w' => e = .returned (.int .i64 (findF fs path)) ∧ Below w.heap.size w w' := by
  unfold maxLen at hn
  have eg : ∀ args w, (callFunc 27 args).run Tryd.prog w = .ok (.enter 27 args) w := enters_of Tryd.func27 (by kernel_rfl) rfl
  have hcon : Calls Tryd.prog 26 #[.slice a fs.length cap, .func (.func 27) #[] #[.pointer (some ⟨w.heap.size, 0, none⟩)]] (w.alloc (.cells #[.string path] 9))
      fun e w' => e = .returned (.int .i64 (findF fs path)) ∧ Below (w.alloc (.cells #[.string path] 9)).heap.size (w.alloc (.cells #[.string path] 9)) w' := by
    rcases hF with rfl | ⟨b, off, rfl, hb, hc⟩
    · refine (indexFunc_none a cap _ _).mono ?_
      rintro e w' ⟨rfl, rfl⟩
      exact ⟨rfl, Below.refl _ _⟩
    · have := AnyQ.slices_IndexFunc Tryd.layIndexFunc 2 Tryd.isAgg33 Tryd.sizeOf33 encS (fun _ => rfl) (isPath path) 27 #[.pointer (some ⟨w.heap.size, 0, none⟩)] eg b off fs.length cap fs (w.alloc (.cells #[.string path] 9))
        (findPred path w.heap.size _ (by simp) (by simp)) (Nat.le_refl _) (by omega) (by simp; omega) (fun j hj i v hi => by
          refine Lib.cell?_alloc_some _ ?_
          have h1 := hc j fs[j]! (by simp [hj])
          generalize fs[j]! = y at hi h1
          match i, hi with
          | 0, hi => simp [encS] at hi; rw [← hi]; exact h1.1
          | 1, hi => simp [encS] at hi; rw [← hi]; exact h1.2
          | i + 2, hi => simp [encS] at hi)
      rw [List.take_of_length_le (Nat.le_refl _)] at this
      exact this
  clear hF
  generalize findF fs path = r at hcon ⊢
  go_enter Tryd.func11, Tryd.ntmps11
  go_wp2_with (go_at_call 26; refine hcon.mono ?_; rintro e w' ⟨rfl, hb'⟩)
  go_ret
  exact ⟨rfl, ((Below.refl _ w).alloc (Nat.le_refl _) _).trans (hb'.mono (by simp))⟩

end Go.Proofs.YthklodlhbafehaaDoor
