/- Walk of the closed fact that the statements ask first: a call returns true. -/
import Derived.Test.YthklodlhbafehaaDoorFacts
import Derived.Test.YthklodlhbafehaaDoorShelfC
namespace Go.Proofs.YthklodlhbafehaaDoor
open Go.RowKit Go.Shelf

theorem mx_of_shaped {w : World} (h : w.ShapedOpen Tryd.prog) : Mx w := Tryd.laysM143.s1_3 w h

def aliveCells : Array Value := #[.string sAB, .string { data := #[120, 121, 122] }, .string sMain, .string { data := #[105, 110, 116] }]

theorem alive_files (w : World) : FAt (w.alloc (.cells aliveCells 33)) (some ⟨w.heap.size, 0, none⟩) aliveFs := by
  refine .inr ⟨w.heap.size, 0, rfl, by simp, fun j x hx => ?_⟩
  rw [World.cell?_alloc_mark, World.cell?_alloc_mark]
  match j, hx with
  | 0, hx => cases hx; exact ⟨rfl, rfl⟩
  | 1, hx => cases hx; exact ⟨rfl, rfl⟩
  | j + 2, hx => simp [aliveFs] at hx
theorem alive_edits (w : World) : EAt (w.alloc (.cells #[.int .i64 0, .int .i64 1, .int .i64 2, .string { data := #[81] }] 41)) (some ⟨w.heap.size, 0, none⟩) aliveEs := by
  refine .inr ⟨w.heap.size, 0, rfl, by simp, fun j x hx i v hv => ?_⟩
  rw [World.cell?_alloc_mark]
  match j, hx with
  | 0, hx =>
    cases hx
    match i, hv with
    | 0, hv => cases hv; rfl
    | 1, hv => cases hv; rfl
    | 2, hv => cases hv; rfl
    | 3, hv => cases hv; rfl
    | i + 4, hv => simp [encE] at hv
  | j + 1, hx => simp [aliveEs] at hx

theorem aliveFs_small : ∀ x ∈ aliveFs, x.1.size ≤ 6 ∧ x.2.size ≤ 3 := by
  intro x hx
  simp only [aliveFs, List.mem_cons, List.mem_nil_iff, or_false] at hx
  rcases hx with rfl | rfl
  · exact ⟨by decide, by decide⟩
  · exact ⟨by decide, by decide⟩

theorem alive_find (b : Nat) (W : World) (hF : FAt W (some ⟨b, 0, none⟩) aliveFs) : Calls Tryd.prog 11 #[.slice (some ⟨b, 0, none⟩) 2 2, .string { data := #[109, 97, 105, 110, 46, 99] }] W fun e w' => e = .returned (.int .i64 1) ∧ Below W.heap.size W w' := by
  have := Find_any (some ⟨b, 0, none⟩) 2 aliveFs sMain W hF (by decide)
  rw [fact_find] at this
  exact this
theorem alive_beside (W : World) (hm : Mx W) : Calls Tryd.prog 15 #[.string { data := #[97, 47, 98, 46, 104] }, .string { data := #[46, 46, 47, 109, 97, 105, 110, 46, 99] }] W fun e w' => e = .returned (.string { data := #[109, 97, 105, 110, 46, 99] }) ∧ Below W.heap.size W w' := by
  have := Beside_any sAB { data := #[46, 46, 47, 109, 97, 105, 110, 46, 99] } W hm (by decide)
  rw [fact_beside] at this
  exact this
theorem alive_include (b : Nat) (W : World) (hm : Mx W) (hF : FAt W (some ⟨b, 0, none⟩) aliveFs) : Calls Tryd.prog 13 #[.slice (some ⟨b, 0, none⟩) 2 2, .int .i64 0, .string { data := #[98, 46, 104] }, .bool true] W fun e w' => e = .returned (.int .i64 0) ∧ Below W.heap.size W w' := by
  have h3 : ({ data := #[98, 46, 104] } : ByteArray).size = 3 := by decide
  have := Include_any (some ⟨b, 0, none⟩) 2 aliveFs 0 { data := #[98, 46, 104] } true W hm hF (by decide) (fun x hx => by have := aliveFs_small x hx; rw [h3]; omega) (by rw [h3]; omega)
  rw [fact_include] at this
  exact this
theorem alive_clean (W : World) (hm : Mx W) : Calls Tryd.prog 7 #[.string { data := #[97] }] W fun e w' => e = .returned (.bool true) ∧ Below W.heap.size W w' := by
  obtain ⟨m, hm⟩ := hm
  have := Clean_any { data := #[97] } W m hm (by decide)
  rw [fact_clean] at this
  exact this
theorem alive_wrong (b : Nat) (W : World) (hm : Mx W) (hF : FAt W (some ⟨b, 0, none⟩) aliveFs) : Calls Tryd.prog 9 #[.slice (some ⟨b, 0, none⟩) 2 2] W fun e w' => (∃ e2, e = .returned (.agg #[.int .i64 0, .int .i64 e2, .int .i64 0])) ∧ Below W.heap.size W w' := by
  have := Wrong_any (some ⟨b, 0, none⟩) 2 aliveFs W hm hF (fun x hx => by have := aliveFs_small x hx; unfold maxLen; omega) (by decide)
  rw [fact_wrong] at this
  exact this.mono fun e w' ⟨he, hb⟩ => ⟨⟨_, he⟩, hb⟩

theorem field_err (x y z : Int) (W : World) : (Instr.field 28 (.agg #[.int .i64 x, .int .i64 y, .int .i64 z]) 0).run Tryd.prog W = .ok (.int .i64 x) W := by kernel_rfl

set_option maxRecDepth 100000 in
set_option maxHeartbeats 2000000 in
theorem alive_any (w : World) (hm : Mx w) : Calls Tryd.prog 20 #[] w fun e w' => e = .returned (.bool true) ∧ Below w.heap.size w w' := by
  have hb2 : Below w.heap.size w ((w.alloc (.cells aliveCells 33)).alloc (.cells #[.int .i64 0, .int .i64 1, .int .i64 2, .string { data := #[81] }] 41)) := ((Below.refl _ w).alloc (Nat.le_refl _) _).alloc (by simp) _
  have hF2 : FAt ((w.alloc (.cells aliveCells 33)).alloc (.cells #[.int .i64 0, .int .i64 1, .int .i64 2, .string { data := #[81] }] 41)) (some ⟨w.heap.size, 0, none⟩) aliveFs := (alive_files w).below ((Below.refl _ _).alloc (Nat.le_refl _) _)
  have hE2 := alive_edits (w.alloc (.cells aliveCells 33))
  have hsm := aliveFs_small
  have hch := Change_any (some ⟨w.heap.size, 0, none⟩) (some ⟨(w.alloc (.cells aliveCells 33)).heap.size, 0, none⟩) 2 1 aliveFs aliveEs _ (hm.below hb2) hF2 hE2 (by decide) (by decide) (fun x hx => by have := hsm x hx; unfold maxLen; omega) (by decide)
  have l2 : aliveFs.length = 2 := rfl
  have l1 : aliveEs.length = 1 := rfl
  rw [l2, l1, World.size_alloc] at hch
  have HC := hid hch
  have HW : Hid (∀ W, Below ((w.alloc (.cells aliveCells 33)).alloc (.cells #[.int .i64 0, .int .i64 1, .int .i64 2, .string { data := #[81] }] 41)).heap.size ((w.alloc (.cells aliveCells 33)).alloc (.cells #[.int .i64 0, .int .i64 1, .int .i64 2, .string { data := #[81] }] 41)) W → Mx W ∧ FAt W (some ⟨w.heap.size, 0, none⟩) aliveFs) := fun W hW => ⟨(hm.below hb2).below hW, hF2.below hW⟩
  have HB := hid hb2
  clear hch hb2 hF2 hE2 l1 l2
  unfold aliveCells sAB sMain at HC HB HW
  go_enter Tryd.func20, Tryd.ntmps20
  go_wp2_with fail
  refine HC.out.mono ?_
  rintro e W1 ⟨a, c, rfl, hFA, hb1⟩
  rw [fact_change] at hFA ⊢
  rcases hFA with h | ⟨g, off, rfl, hg, hcs⟩
  · cases h
  have ct := (hcs 0 _ rfl).2
  simp only [Nat.zero_mul, Nat.add_zero] at ct
  have HCt := hid ct
  have HX1 := hid (HW.out W1 hb1)
  have HB1 := hid (HB.out.trans (hb1.mono HB.out.size))
  clear hcs hb1 HC HW HB hm hsm HCt
  go_wp2_with fail
  refine (alive_find w.heap.size W1 HX1.out.2).mono ?_
  rintro e W2 ⟨rfl, hb2⟩
  have HX2 : Hid (Mx W2 ∧ FAt W2 (some ⟨w.heap.size, 0, none⟩) aliveFs) := ⟨HX1.out.1.below hb2, HX1.out.2.below hb2⟩
  have HB2 := hid (HB1.out.trans (hb2.mono HB1.out.size))
  clear hb2 ct
  go_wp2_with fail
  refine (alive_beside W2 HX2.out.1).mono ?_
  rintro e W3 ⟨rfl, hb3⟩
  have HX3 : Hid (Mx W3 ∧ FAt W3 (some ⟨w.heap.size, 0, none⟩) aliveFs) := ⟨HX2.out.1.below hb3, HX2.out.2.below hb3⟩
  have HB3 := hid (HB2.out.trans (hb3.mono HB2.out.size))
  clear hb3
  go_wp2_with fail
  refine (alive_include w.heap.size W3 HX3.out.1 HX3.out.2).mono ?_
  rintro e W4 ⟨rfl, hb4⟩
  have HX4 : Hid (Mx W4 ∧ FAt W4 (some ⟨w.heap.size, 0, none⟩) aliveFs) := ⟨HX3.out.1.below hb4, HX3.out.2.below hb4⟩
  have HB4 := hid (HB3.out.trans (hb4.mono HB3.out.size))
  clear hb4
  go_wp2_with fail
  refine (alive_clean W4 HX4.out.1).mono ?_
  rintro e W5 ⟨rfl, hb5⟩
  have HX5 : Hid (Mx W5 ∧ FAt W5 (some ⟨w.heap.size, 0, none⟩) aliveFs) := ⟨HX4.out.1.below hb5, HX4.out.2.below hb5⟩
  have HB5 := hid (HB4.out.trans (hb5.mono HB4.out.size))
  clear hb5
  go_wp2_with fail
  refine (alive_wrong w.heap.size W5 HX5.out.1 HX5.out.2).mono ?_
  rintro e W6 ⟨⟨e2, rfl⟩, hb6⟩
  have HB6 := hid (HB5.out.trans (hb6.mono HB5.out.size))
  clear hb6
  have hfld := fun W => field_err 0 e2 0 W
  go_wp2_with fail
  go_ret
  exact ⟨rfl, HB6.out⟩

end Go.Proofs.YthklodlhbafehaaDoor
