/- Walks of pieces and of what it answers: one piece after the other. -/
import Derived.Test.YteklakpfbkcegaaGreatDoorLxMade
namespace Go.Proofs.YteklakpfbkcegaaGreatDoor
open Go.RowKit Go.Shelf

abbrev pathFn (H : Nat) : Value := .func (.func 82) #[] #[.pointer (some ⟨H + 3, 0, none⟩), .pointer (some ⟨H + 1, 0, none⟩)]

/-- The variables of pieces, in blocks from H on. -/
structure PSt (w : World) (H : Nat) (s : ByteArray) (gv : Value) (i : Nat) : Prop where
  size : H + 10 < w.heap.size
  cS : w.cell? ⟨H, 0, none⟩ = some (.string s)
  cI : w.cell? ⟨H + 1, 0, none⟩ = some gv
  bA : w.heap[H + 2]? = some (.cells #[.int .i64 (i : Int)] 3)
  bP : ∃ v0 v1 v2 v3 v4, w.heap[H + 3]? = some (.cells #[v0, v1, v2, v3, v4] 107)
  cAll : w.cell? ⟨H + 10, 0, none⟩ = some (.slice (some ⟨H + 9, 0, none⟩) 6 6)
  made : Made (H + 4) w (H + 9) (H + 4) (H + 7) (H + 8) (H + 6) (H + 5) (pathFn H)

/-- The four variables that pieces lays first. -/
def fourW (w : World) (s : ByteArray) (gv : Value) : World :=
  (((w.alloc (.cells #[.string s] 9)).alloc (.cells #[gv] 49)).alloc (.cells #[.int .i64 0] 3)).alloc (.cells #[.int .i64 0, .int .i64 0, .int .i64 0, .bool false, .bool false] 107)
theorem four_facts (w : World) (s : ByteArray) (gv : Value) : (fourW w s gv).heap.size = w.heap.size + 4 ∧ Below w.heap.size w (fourW w s gv) ∧ (fourW w s gv).heap[w.heap.size]? = some (.cells #[.string s] 9) ∧
    (fourW w s gv).heap[w.heap.size + 1]? = some (.cells #[gv] 49) ∧ (fourW w s gv).heap[w.heap.size + 2]? = some (.cells #[.int .i64 0] 3) ∧
    (fourW w s gv).heap[w.heap.size + 3]? = some (.cells #[.int .i64 0, .int .i64 0, .int .i64 0, .bool false, .bool false] 107) := by
  refine ⟨by simp [fourW], ?_, ?_, ?_, ?_, ?_⟩
  · unfold fourW
    exact ((((Below.refl _ w).alloc (Nat.le_refl _) _).alloc (by simp) _).alloc (by simp; omega) _).alloc (by simp; omega) _
  all_goals
    simp only [fourW, alloc_at, World.size_alloc]
    repeat (first | rw [if_pos (by omega)] | rw [if_neg (by omega)])
    exact if_pos trivial

theorem pst_start (w : World) (s : ByteArray) (gv : Value) : PSt ((shapesW (fourW w s gv) (pathFn w.heap.size)).alloc (.cells #[.slice (some ⟨(fourW w s gv).heap.size + 5, 0, none⟩) 6 6] 118)) w.heap.size s gv 0 ∧
    Below w.heap.size w ((shapesW (fourW w s gv) (pathFn w.heap.size)).alloc (.cells #[.slice (some ⟨(fourW w s gv).heap.size + 5, 0, none⟩) 6 6] 118)) := by
  obtain ⟨h1, h2, g0, g1, g2, g3⟩ := four_facts w s gv
  obtain ⟨hm, hb⟩ := made_shapes (fourW w s gv) (pathFn w.heap.size)
  have hz : (shapesW (fourW w s gv) (pathFn w.heap.size)).heap.size = w.heap.size + 10 := by simp [shapesW, h1]
  rw [h1] at hm hb
  generalize hW4 : fourW w s gv = W4 at *
  have hb2 : Below W4.heap.size W4 ((shapesW W4 (pathFn w.heap.size)).alloc (.cells #[.slice (some ⟨W4.heap.size + 5, 0, none⟩) 6 6] 118)) := by rw [h1]; exact hb.alloc (by omega) _
  have K : ∀ k o, W4.heap[k]? = some o → k < W4.heap.size → ((shapesW W4 (pathFn w.heap.size)).alloc (.cells #[.slice (some ⟨W4.heap.size + 5, 0, none⟩) 6 6] 118)).heap[k]? = some o := fun k o h hk => (hb2.block k hk).trans h
  have hnew := heap_alloc_new (shapesW W4 (pathFn w.heap.size)) (.cells #[.slice (some ⟨W4.heap.size + 5, 0, none⟩) 6 6] 118)
  rw [hz] at hnew
  have hmade := hm.kept (X := fun _ => False) (kept_of_below ((Below.refl _ (shapesW W4 (pathFn w.heap.size))).alloc (Nat.le_refl _) (.cells #[.slice (some ⟨W4.heap.size + 5, 0, none⟩) 6 6] 118))) (fun _ h => h.elim)
  refine ⟨⟨by simp; omega, ?_, ?_, K _ _ g2 (by omega), ⟨_, _, _, _, _, K _ _ g3 (by omega)⟩, ?_, hmade⟩, h2.trans (hb2.mono (by omega))⟩
  · rw [Go.Joins.cell_of_block (K _ _ g0 (by omega))]; rfl
  · rw [Go.Joins.cell_of_block (K _ _ g1 (by omega))]; rfl
  · rw [Go.Joins.cell_of_block hnew, h1]; rfl

set_option maxRecDepth 100000 in
set_option maxHeartbeats 1000000 in
theorem pieces_any (s : ByteArray) (g : Nat) (gcaps : Array Value) (w : World) (hE : Env w) :
    Calls Tryz.prog 64 #[.string s, .func (.func g) #[] gcaps] w fun e w' =>
      e = .returned (.func (.func 83) #[] #[.pointer (some ⟨w.heap.size + 2, 0, none⟩), .pointer (some ⟨w.heap.size + 3, 0, none⟩), .pointer (some ⟨w.heap.size, 0, none⟩), .pointer (some ⟨w.heap.size + 10, 0, none⟩)]) ∧
      PSt w' w.heap.size s (.func (.func g) #[] gcaps) 0 ∧ Below w.heap.size w w' := by
  have HS := hid (fun W (h : Env W) => shapes_any 82 #[.pointer (some ⟨w.heap.size + 3, 0, none⟩), .pointer (some ⟨w.heap.size + 1, 0, none⟩)] W h)
  go_enter Tryz.func64, Tryz.ntmps64
  go_wp2_with fail
  refine (HS.out (fourW w s (.func (.func g) #[] gcaps)) (hE.below (four_facts w s _).2.1)).mono ?_
  rintro e w1 ⟨rfl, hww⟩
  subst w1
  have hps := pst_start w s (.func (.func g) #[] gcaps)
  have hz : (shapesW (fourW w s (.func (.func g) #[] gcaps)) (pathFn w.heap.size)).heap.size = w.heap.size + 10 := by simp [shapesW, (four_facts w s (.func (.func g) #[] gcaps)).1]
  generalize shapesW (fourW w s (.func (.func g) #[] gcaps)) (pathFn w.heap.size) = W at hz hps ⊢
  have HPS := hid hps
  clear hps
  go_wp2
  go_ret
  exact ⟨by simp, HPS.out⟩
end Go.Proofs.YteklakpfbkcegaaGreatDoor
