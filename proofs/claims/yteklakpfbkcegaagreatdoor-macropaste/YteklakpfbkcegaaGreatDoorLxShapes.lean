/- Walks of Signs, quoted and shapes. -/
import Derived.Test.YteklakpfbkcegaaGreatDoorLxMeasure
import Derived.Lib.SmallJoins
namespace Go.Proofs.YteklakpfbkcegaaGreatDoor
open Go.RowKit Go.Shelf

/-- What the library's variables hold. -/
def Env (w : World) : Prop := Mx w ∧ Lib.TabIs Tryz.prog w "strings.asciiSpace" .u8 Lib.asciiSpaceTab
theorem Env.below {w w' : World} (h : Env w) (hb : Below w.heap.size w w') : Env w' := ⟨h.1.below hb, Go.Joins.tab_stays (g := 3) (by kernel_rfl) h.2 hb (Nat.le_refl _)⟩

theorem ascii_of_all {s : ByteArray} (h : s.data.toList.all (fun b => decide (b.toNat < 128)) = true) : ∀ (j : Nat) b, s.data.toList[j]? = some b → b.toNat < 128 := by
  intro j b hb
  have := List.all_eq_true.1 h b (List.mem_of_getElem? hb)
  simpa using this

def signCells : Array Value := (signsL.map fun l => Value.string ⟨l.toArray⟩).toArray

set_option maxRecDepth 100000 in
theorem Signs_any (w : World) (hE : Env w) :
    Calls Tryz.prog 92 #[] w fun e w' => e = .returned (.slice (some ⟨w.heap.size, 0, none⟩) 48 48) ∧ w' = w.alloc (.cells signCells 9) := by
  go_enter Tryz.func92, Tryz.ntmps92
  go_wp2_with fail
  refine (Tryz.strings_Fields _ _ (by decide +kernel) (ascii_of_all (by decide +kernel)) hE.2).mono ?_
  rintro e w' ⟨rfl, hww⟩
  subst w'
  go_wp2
  go_ret
  exact ⟨by kernel_rfl, by kernel_rfl⟩

theorem quoted_any (q : UInt8) (w : World) :
    Calls Tryz.prog 95 #[.int .u8 (q.toNat : Int)] w fun e w' => e = .returned (.func (.func 116) #[] #[.pointer (some ⟨w.heap.size, 0, none⟩)]) ∧ w' = w.alloc (.cells #[.int .u8 (q.toNat : Int)] 5) := by
  go_enter Tryz.func95, Tryz.ntmps95
  go_wp2
  go_ret
  exact ⟨rfl, rfl⟩

/-- The shapes of the text at hand, by what they hold. -/
def theShapes (P0 q1 q2 B : Nat) (l : List UInt8) (path : Bool) : List Shape :=
  [⟨1, 93, #[], (nameSz l : Nat)⟩, ⟨2, 94, #[], (numSz l : Nat)⟩, ⟨4, 116, #[.pointer (some ⟨q1, 0, none⟩)], quotSz 34 l⟩,
   ⟨3, 116, #[.pointer (some ⟨q2, 0, none⟩)], quotSz 39 l⟩, ⟨7, 96, #[.pointer (some ⟨P0, 0, none⟩)], if path then (pathSz l : Nat) else 0⟩,
   ⟨5, 98, #[.pointer (some ⟨B, 0, none⟩)], (signSz l : Nat)⟩]
theorem shapes_sizes (P0 q1 q2 B : Nat) (l : List UInt8) (path : Bool) : (theShapes P0 q1 q2 B l path).map kindSize = sizes l path := rfl

def shapeCells (P0 q1 q2 B : Nat) : Array Value :=
  #[.int .i64 1, .func (.func 93) #[] #[], .int .i64 2, .func (.func 94) #[] #[], .int .i64 4, .func (.func 116) #[] #[.pointer (some ⟨q1, 0, none⟩)],
    .int .i64 3, .func (.func 116) #[] #[.pointer (some ⟨q2, 0, none⟩)], .int .i64 7, .func (.func 96) #[] #[.pointer (some ⟨P0, 0, none⟩)], .int .i64 5, .func (.func 98) #[] #[.pointer (some ⟨B, 0, none⟩)]]

/-- The memory that shapes lays. -/
def shapesW (w : World) (pv : Value) : World :=
  (((((w.alloc (.cells #[pv] 49)).alloc (.cells signCells 9)).alloc (.cells #[.slice (some ⟨w.heap.size + 1, 0, none⟩) 48 48] 22)).alloc (.cells #[.int .u8 34] 5)).alloc (.cells #[.int .u8 39] 5)).alloc
    (.cells (shapeCells w.heap.size (w.heap.size + 3) (w.heap.size + 4) (w.heap.size + 2)) 128)

set_option maxRecDepth 100000 in
set_option maxHeartbeats 1000000 in
theorem shapes_any (f : Nat) (caps : Array Value) (w : World) (hE : Env w) :
    Calls Tryz.prog 81 #[.func (.func f) #[] caps] w fun e w' => e = .returned (.slice (some ⟨w.heap.size + 5, 0, none⟩) 6 6) ∧ w' = shapesW w (.func (.func f) #[] caps) := by
  have HS := hid (Signs_any (w.alloc (.cells #[.func (.func f) #[] caps] 49)) (hE.below ((Below.refl _ w).alloc (Nat.le_refl _) _)))
  have HQ1 : Hid (∀ W, Calls Tryz.prog 95 #[.int .u8 34] W fun e w' => e = .returned (.func (.func 116) #[] #[.pointer (some ⟨W.heap.size, 0, none⟩)]) ∧ w' = W.alloc (.cells #[.int .u8 34] 5)) := fun W => quoted_any 34 W
  have HQ2 : Hid (∀ W, Calls Tryz.prog 95 #[.int .u8 39] W fun e w' => e = .returned (.func (.func 116) #[] #[.pointer (some ⟨W.heap.size, 0, none⟩)]) ∧ w' = W.alloc (.cells #[.int .u8 39] 5)) := fun W => quoted_any 39 W
  go_enter Tryz.func81, Tryz.ntmps81
  go_wp2_with fail
  refine HS.out.mono ?_
  rintro e w1 ⟨rfl, hww⟩
  subst w1
  go_wp2_with fail
  refine (HQ1.out _).mono ?_
  rintro e w1 ⟨rfl, hww⟩
  subst w1
  go_wp2_with fail
  refine (HQ2.out _).mono ?_
  rintro e w1 ⟨rfl, hww⟩
  subst w1
  go_wp2
  go_ret
  exact ⟨by simp, by simp [shapesW, shapeCells]⟩
end Go.Proofs.YteklakpfbkcegaaGreatDoor
