/- What the shapes hold in memory, and that each measures as it should; what stays when two variables turn. -/
import Derived.Test.YteklakpfbkcegaaGreatDoorLxShapes
namespace Go.Proofs.YteklakpfbkcegaaGreatDoor
open Go.RowKit Go.Shelf

/-- All that lay lies as it did, but some blocks. -/
structure Kept (X : Nat → Prop) (w w' : World) : Prop where
  os : w'.os = w.os
  tape : w'.tape = w.tape
  output : w'.output = w.output
  size : w.heap.size ≤ w'.heap.size
  block : ∀ k, k < w.heap.size → ¬ X k → w'.heap[k]? = w.heap[k]?
theorem Kept.refl (X : Nat → Prop) (w : World) : Kept X w w := ⟨rfl, rfl, rfl, Nat.le_refl _, fun _ _ _ => rfl⟩
theorem Kept.trans {X : Nat → Prop} {a b c : World} (h : Kept X a b) (k : Kept X b c) : Kept X a c :=
  ⟨k.os.trans h.os, k.tape.trans h.tape, k.output.trans h.output, Nat.le_trans h.size k.size, fun i hi hx => (k.block i (Nat.lt_of_lt_of_le hi h.size) hx).trans (h.block i hi hx)⟩
theorem kept_of_below {X : Nat → Prop} {w w' : World} (h : Below w.heap.size w w') : Kept X w w' := ⟨h.os, h.tape, h.output, h.size, fun k hk _ => h.block k hk⟩
theorem Kept.cell {X : Nat → Prop} {w w' : World} (h : Kept X w w') {p : Addr} (hp : p.block < w.heap.size) (hx : ¬ X p.block) : w'.cell? p = w.cell? p :=
  World.cell?_of_block (h.block _ hp hx)
theorem Kept.setCell {X : Nat → Prop} {w w' : World} (h : Kept X w w') {a : Addr} (hx : X a.block) (v : Value) : Kept X w (w'.setCell a v) := by
  refine h.trans ⟨rfl, rfl, rfl, by simp, fun k hk hk' => ?_⟩
  exact Below.heap_setCell w' a v k (fun e => hk' (e ▸ hx))
theorem Kept.below {X : Nat → Prop} {B : Nat} {w w' : World} (h : Kept X w w') (hB : B ≤ w.heap.size) (hx : ∀ k, k < B → ¬ X k) : Below B w w' :=
  ⟨h.os, h.tape, h.output, h.size, fun k hk => h.block k (Nat.lt_of_lt_of_le hk hB) (hx k hk)⟩
theorem Kept.mono {X Y : Nat → Prop} {w w' : World} (h : Kept X w w') (hy : ∀ k, X k → Y k) : Kept Y w w' :=
  ⟨h.os, h.tape, h.output, h.size, fun k hk hx => h.block k hk (fun hX => hx (hy k hX))⟩
theorem Kept.less {X : Nat → Prop} {w w' : World} (h : Kept X w w') {b : Nat} (hb : b < w.heap.size) : b < w'.heap.size := Nat.lt_of_lt_of_le hb h.size

/-- The blocks of the shapes, and what they hold. -/
structure Made (B0 : Nat) (w : World) (S P0 q1 q2 B b : Nat) (pv : Value) : Prop where
  lo : B0 ≤ S ∧ B0 ≤ P0 ∧ B0 ≤ q1 ∧ B0 ≤ q2 ∧ B0 ≤ B ∧ B0 ≤ b
  hi : S < w.heap.size ∧ P0 < w.heap.size ∧ q1 < w.heap.size ∧ q2 < w.heap.size ∧ B < w.heap.size ∧ b < w.heap.size
  sh : ∀ (j : Nat) v, (shapeCells P0 q1 q2 B)[j]? = some v → w.cell? ⟨S, j, none⟩ = some v
  c0 : w.cell? ⟨P0, 0, none⟩ = some pv
  c1 : w.cell? ⟨q1, 0, none⟩ = some (.int .u8 34)
  c2 : w.cell? ⟨q2, 0, none⟩ = some (.int .u8 39)
  c3 : w.cell? ⟨B, 0, none⟩ = some (.slice (some ⟨b, 0, none⟩) 48 48)
  sa : SAt w b signsL

theorem Made.kept {B0 : Nat} {w w' : World} {S P0 q1 q2 B b : Nat} {pv : Value} {X : Nat → Prop} (h : Made B0 w S P0 q1 q2 B b pv) (hk : Kept X w w') (hX : ∀ k, X k → k < B0) : Made B0 w' S P0 q1 q2 B b pv := by
  obtain ⟨l1, l2, l3, l4, l5, l6⟩ := h.lo
  obtain ⟨h1, h2, h3, h4, h5, h6⟩ := h.hi
  have N : ∀ k, B0 ≤ k → ¬ X k := fun k hk hx => by have := hX k hx; omega
  refine ⟨h.lo, ⟨hk.less h1, hk.less h2, hk.less h3, hk.less h4, hk.less h5, hk.less h6⟩, fun j v hv => ?_, ?_, ?_, ?_, ?_, ⟨hk.less h6, fun j x hx => ?_⟩⟩
  · rw [hk.cell (p := ⟨S, j, none⟩) h1 (N _ l1)]; exact h.sh j v hv
  · rw [hk.cell (p := ⟨P0, 0, none⟩) h2 (N _ l2)]; exact h.c0
  · rw [hk.cell (p := ⟨q1, 0, none⟩) h3 (N _ l3)]; exact h.c1
  · rw [hk.cell (p := ⟨q2, 0, none⟩) h4 (N _ l4)]; exact h.c2
  · rw [hk.cell (p := ⟨B, 0, none⟩) h5 (N _ l5)]; exact h.c3
  · rw [hk.cell (p := ⟨b, j, none⟩) h6 (N _ l6)]; exact h.sa.2 j x hx

theorem Made.shAt {B0 : Nat} {w : World} {S P0 q1 q2 B b : Nat} {pv : Value} (h : Made B0 w S P0 q1 q2 B b pv) (l : List UInt8) (path : Bool) : ShAt w S (theShapes P0 q1 q2 B l path) := by
  refine ⟨h.hi.1, fun j e he => ?_⟩
  match j, he with
  | 0, he => cases he; exact ⟨h.sh 0 _ rfl, h.sh 1 _ rfl⟩
  | 1, he => cases he; exact ⟨h.sh 2 _ rfl, h.sh 3 _ rfl⟩
  | 2, he => cases he; exact ⟨h.sh 4 _ rfl, h.sh 5 _ rfl⟩
  | 3, he => cases he; exact ⟨h.sh 6 _ rfl, h.sh 7 _ rfl⟩
  | 4, he => cases he; exact ⟨h.sh 8 _ rfl, h.sh 9 _ rfl⟩
  | 5, he => cases he; exact ⟨h.sh 10 _ rfl, h.sh 11 _ rfl⟩
  | j + 6, he => cases he

theorem alloc_at (w : World) (o : Obj) (k : Nat) : (w.alloc o).heap[k]? = if k = w.heap.size then some o else w.heap[k]? := by
  show (w.heap.push o)[k]? = _
  rw [Array.getElem?_push]

theorem made_shapes (w : World) (pv : Value) : Made w.heap.size (shapesW w pv) (w.heap.size + 5) w.heap.size (w.heap.size + 3) (w.heap.size + 4) (w.heap.size + 2) (w.heap.size + 1) pv ∧ Below w.heap.size w (shapesW w pv) := by
  have hb : Below w.heap.size w (shapesW w pv) := by
    unfold shapesW
    exact ((((((Below.refl _ w).alloc (Nat.le_refl _) _).alloc (by simp) _).alloc (by simp; omega) _).alloc (by simp; omega) _).alloc (by simp; omega) _).alloc (by simp; omega) _
  have hz : (shapesW w pv).heap.size = w.heap.size + 6 := by simp [shapesW]
  have g0 : (shapesW w pv).heap[w.heap.size]? = some (.cells #[pv] 49) := by
    simp only [shapesW, alloc_at, World.size_alloc]
    repeat (first | rw [if_pos (by omega)] | rw [if_neg (by omega)])
    exact if_pos trivial
  have g1 : (shapesW w pv).heap[w.heap.size + 1]? = some (.cells signCells 9) := by
    simp only [shapesW, alloc_at, World.size_alloc]
    repeat (first | rw [if_pos (by omega)] | rw [if_neg (by omega)])
    exact if_pos trivial
  have g2 : (shapesW w pv).heap[w.heap.size + 2]? = some (.cells #[.slice (some ⟨w.heap.size + 1, 0, none⟩) 48 48] 22) := by
    simp only [shapesW, alloc_at, World.size_alloc]
    repeat (first | rw [if_pos (by omega)] | rw [if_neg (by omega)])
    exact if_pos trivial
  have g3 : (shapesW w pv).heap[w.heap.size + 3]? = some (.cells #[.int .u8 34] 5) := by
    simp only [shapesW, alloc_at, World.size_alloc]
    repeat (first | rw [if_pos (by omega)] | rw [if_neg (by omega)])
    exact if_pos trivial
  have g4 : (shapesW w pv).heap[w.heap.size + 4]? = some (.cells #[.int .u8 39] 5) := by
    simp only [shapesW, alloc_at, World.size_alloc]
    repeat (first | rw [if_pos (by omega)] | rw [if_neg (by omega)])
    exact if_pos trivial
  have g5 : (shapesW w pv).heap[w.heap.size + 5]? = some (.cells (shapeCells w.heap.size (w.heap.size + 3) (w.heap.size + 4) (w.heap.size + 2)) 128) := by
    simp only [shapesW, alloc_at, World.size_alloc]
    repeat (first | rw [if_pos (by omega)] | rw [if_neg (by omega)])
    exact if_pos trivial
  refine ⟨⟨by omega, by omega, fun j v hv => ?_, ?_, ?_, ?_, ?_, by omega, fun j x hx => ?_⟩, hb⟩
  · rw [Go.Joins.cell_of_block g5]; exact hv
  · rw [Go.Joins.cell_of_block g0]; rfl
  · rw [Go.Joins.cell_of_block g3]; rfl
  · rw [Go.Joins.cell_of_block g4]; rfl
  · rw [Go.Joins.cell_of_block g2]; rfl
  · rw [Go.Joins.cell_of_block g1]
    simp only [signCells, List.getElem?_toArray, List.getElem?_map, hx, Option.map_some]

theorem shapes2_any (B b : Nat) (s : ByteArray) (w : World) (hB : w.cell? ⟨B, 0, none⟩ = some (.slice (some ⟨b, 0, none⟩) 48 48)) (hS : SAt w b signsL) :
    Calls Tryz.prog 98 #[.string s, .pointer (some ⟨B, 0, none⟩)] w fun e w' => e = .returned (.int .i64 (signSz s.data.toList : Nat)) ∧ Below w.heap.size w w' := by
  have HS : Hid (Calls Tryz.prog 99 #[.slice (some ⟨b, 0, none⟩) 48 48, .string s] w fun e w' => e = .returned (.int .i64 (signSz s.data.toList : Nat)) ∧ w' = w) := signSize_any b 48 signsL s w hS (by decide)
  clear hS
  go_enter Tryz.func98, Tryz.ntmps98
  go_wp2_with (go_at_call 99; refine HS.out.mono ?_; rintro e w' ⟨rfl, hww⟩; subst w')
  go_ret
  exact ⟨rfl, Below.refl _ _⟩

theorem shapes1_any (P0 f : Nat) (caps : Array Value) (pb : Bool) (s : ByteArray) (w : World) (hP : w.cell? ⟨P0, 0, none⟩ = some (.func (.func f) #[] caps)) (hs : s.size ≤ 1048576)
    (eg : ∀ args W, (callFunc f args).run Tryz.prog W = .ok (.enter f args) W) (hf : Calls Tryz.prog f caps w fun e w' => e = .returned (.bool pb) ∧ Below w.heap.size w w') :
    Calls Tryz.prog 96 #[.string s, .pointer (some ⟨P0, 0, none⟩)] w fun e w' => e = .returned (.int .i64 (if pb then ((pathSz s.data.toList : Nat) : Int) else 0)) ∧ Below w.heap.size w w' := by
  have HF := hid hf
  have HP := hid (fun W => pathSize_any s W (by omega))
  clear hf
  cases pb with
  | false =>
    go_enter Tryz.func96, Tryz.ntmps96
    go_wp2_with (refine HF.out.mono ?_; rintro e w1 ⟨rfl, hb1⟩)
    go_ret
    exact ⟨rfl, hb1⟩
  | true =>
    go_enter Tryz.func96, Tryz.ntmps96
    go_wp2_with fail
    refine HF.out.mono ?_
    rintro e w1 ⟨rfl, hb1⟩
    have HB := hid hb1
    clear hb1
    go_wp2_with fail
    refine (HP.out _).mono ?_
    rintro e w2 ⟨rfl, hb2⟩
    have HB2 := hid (HB.out.trans (hb2.mono HB.out.size))
    clear hb2
    go_wp2
    go_ret
    exact ⟨rfl, HB2.out⟩

/-- Each shape measures the text at hand. -/
theorem Made.fits {B0 : Nat} {w : World} {S P0 q1 q2 B b f : Nat} {caps : Array Value} (h : Made B0 w S P0 q1 q2 B b (.func (.func f) #[] caps)) (s : ByteArray) (hs : s.size ≤ 1048576) (pb : Bool)
    (eg : ∀ args W, (callFunc f args).run Tryz.prog W = .ok (.enter f args) W) (hf : ∀ W, Below w.heap.size w W → Calls Tryz.prog f caps W fun e w' => e = .returned (.bool pb) ∧ Below W.heap.size W w') :
    ∀ e ∈ theShapes P0 q1 q2 B s.data.toList pb, e.Fits s w ∧ e.size ≤ 1048576 := by
  have hm : s.size ≤ maxLen := by unfold maxLen; omega
  have hl : s.data.toList.length ≤ 1048576 := by rw [size_data]; exact hs
  intro e he
  simp only [theShapes, List.mem_cons, List.not_mem_nil, or_false] at he
  rcases he with rfl | rfl | rfl | rfl | rfl | rfl
  · refine ⟨⟨enters_of Tryz.func93 (by kernel_rfl) rfl, fun W hW => nameSize_any s W hm⟩, ?_⟩
    have := nameSz_le s.data.toList
    simp only; omega
  · refine ⟨⟨enters_of Tryz.func94 (by kernel_rfl) rfl, fun W hW => numberSize_any s W hm⟩, ?_⟩
    have := numSz_le s.data.toList
    simp only; omega
  · refine ⟨⟨enters_of Tryz.func116 (by kernel_rfl) rfl, fun W hW => quoted1_any s 34 q1 W hm ((hW.cell (p := ⟨q1, 0, none⟩) h.hi.2.2.1).trans h.c1)⟩, ?_⟩
    have := quotSz_le 34 s.data.toList
    simp only; omega
  · refine ⟨⟨enters_of Tryz.func116 (by kernel_rfl) rfl, fun W hW => quoted1_any s 39 q2 W hm ((hW.cell (p := ⟨q2, 0, none⟩) h.hi.2.2.2.1).trans h.c2)⟩, ?_⟩
    have := quotSz_le 39 s.data.toList
    simp only; omega
  · refine ⟨⟨enters_of Tryz.func96 (by kernel_rfl) rfl, fun W hW => shapes1_any P0 f caps pb s W ((hW.cell (p := ⟨P0, 0, none⟩) h.hi.2.1).trans h.c0) hs eg (hf W hW)⟩, ?_⟩
    have := pathSz_le s.data.toList
    cases pb <;> simp <;> omega
  · refine ⟨⟨enters_of Tryz.func98 (by kernel_rfl) rfl, fun W hW => shapes2_any B b s W ((hW.cell (p := ⟨B, 0, none⟩) h.hi.2.2.2.2.1).trans h.c3) (h.sa.below hW)⟩, ?_⟩
    have := signSz_le s.data.toList
    simp only; omega
end Go.Proofs.YteklakpfbkcegaaGreatDoor
