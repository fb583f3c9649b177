/- Walk of measure: the first of some shapes that fits. · Walks of Signs, quoted and shapes. · What the shapes hold in memory, and that each measures as it should; what stays when two variables turn. · Walks of pieces and of what it answers: one piece after the other. · Walk of the function that gives out pieces, one by one. · How tokens lie in memory; walk of behindInclude. -/
import Derived.Test.YtoedgcpfomgagaaDoorLxB
import Derived.Test.YtoedgcpfomgagaaDoorLater
import Derived.Laws.EntriesVeiled
import Derived.Lib.SmallJoins
import Derived.Deep.RegionHeld3
namespace Go.Proofs.YtoedgcpfomgagaaDoor
section
open Go.RowKit Go.Shelf

/-- A shape: its kind, the function that measures it with what that holds, and what it answers of the text at hand. -/
structure Shape where
  kind : Int
  fn : Nat
  caps : Array Value
  size : Int

def Shape.Fits (e : Shape) (s : ByteArray) (w : World) : Prop :=
  (∀ args W, (callFunc e.fn args).run Tryd.prog W = .ok (.enter e.fn args) W) ∧
  ∀ W, Below w.heap.size w W → Calls Tryd.prog e.fn (#[.string s] ++ e.caps) W fun r w' => r = .returned (.int .i64 e.size) ∧ Below W.heap.size W w'

/-- What a slice of shapes holds. -/
def ShAt (w : World) (b : Nat) (es : List Shape) : Prop :=
  b < w.heap.size ∧ ∀ (j : Nat) e, es[j]? = some e → w.cell? ⟨b, j * 2, none⟩ = some (.int .i64 e.kind) ∧ w.cell? ⟨b, j * 2 + 1, none⟩ = some (.func (.func e.fn) #[] e.caps)

def kindSize (e : Shape) : Int × Int := (e.kind, e.size)

theorem pick_cons (k n : Int) (r : List (Int × Int)) : pick ((k, n) :: r) = if n = -1 then (-1, 0) else if 0 < n then (k, n) else pick r := rfl

theorem ret_pair {a b c d : Int} (h1 : a = c) (h2 : b = d) : Ending.returned (.tuple #[.int .i64 a, .int .i64 b]) = .returned (.tuple #[.int .i64 c, .int .i64 d]) := by rw [h1, h2]

set_option maxRecDepth 100000 in
set_option maxHeartbeats 1000000 in
theorem measure_any (b c i : Nat) (es : List Shape) (s : ByteArray) (w : World) (hS : ShAt w b es) (hl : es.length ≤ 1000) (hi : i ≤ s.size) (hs : s.size ≤ 1048576)
    (hF : ∀ e ∈ es, e.Fits (s.extract i s.size) w ∧ e.size ≤ 1048576) :
    Calls Tryd.prog 46 #[.slice (some ⟨b, 0, none⟩) es.length c, .string s, .int .i64 (i : Int)] w
      fun e w' => e = .returned (.tuple #[.int .i64 (pick (es.map kindSize)).1, .int .i64 ((i : Int) + (pick (es.map kindSize)).2)]) ∧ Below w.heap.size w w' := by
  go_enter Tryd.func46, Tryd.ntmps46
  go_wp2
  go_loopw [13] (fun x wr => ∃ j : Nat, j ≤ es.length ∧ x = .int .i64 j ∧ Hid (Below w.heap.size w wr ∧ pick (es.map kindSize) = pick ((es.drop j).map kindSize))) (fun x _ => es.length - (intOf x).toNat)
  case atStart => exact ⟨0, Nat.zero_le _, rfl, Below.refl _ _, rfl⟩
  case round =>
    obtain ⟨j, hj, rfl, HR⟩ := hrel
    by_cases hlt : j < es.length
    · have hgj : es[j]? = some es[j] := List.getElem?_eq_getElem hlt
      obtain ⟨c0, c1⟩ := hS.2 j es[j] hgj
      rw [← HR.out.1.cell (p := ⟨b, _, none⟩) hS.1] at c0 c1
      obtain ⟨⟨eg, hcall⟩, hsz⟩ := hF es[j] (List.getElem_mem hlt)
      have HP : Hid (pick (es.map kindSize) = if es[j].size = -1 then (-1, 0) else if 0 < es[j].size then (es[j].kind, es[j].size) else pick ((es.drop (j + 1)).map kindSize)) := by
        show _ = _
        rw [HR.out.2, List.drop_eq_getElem_cons hlt, List.map_cons]; exact pick_cons _ _ _
      have HC := hid hcall
      generalize es[j] = e at c0 c1 eg HC HP hsz
      obtain ⟨k, f, caps, n⟩ := e
      dsimp only at c0 c1 eg HC hsz HP
      clear hgj hcall hF
      have HB := hid HR.out.1
      clear HR
      go_wp2_with fail
      have HB2 := hid (HB.out.alloc HB.out.size (.cells #[.int .i64 k, .func (.func f) #[] caps] 91))
      have x0 : (wr.alloc (.cells #[.int .i64 k, .func (.func f) #[] caps] 91)).cell? ⟨wr.heap.size, 0, none⟩ = some (.int .i64 k) := by rw [World.cell?_alloc_mark]; rfl
      have x1 : (wr.alloc (.cells #[.int .i64 k, .func (.func f) #[] caps] 91)).cell? ⟨wr.heap.size, 1, none⟩ = some (.func (.func f) #[] caps) := by rw [World.cell?_alloc_mark]; rfl
      have HC2 := hid (fun p : Later (wr.alloc (.cells #[.int .i64 k, .func (.func f) #[] caps] 91)) => HC.out p.W (HB2.out.trans (p.hb.mono HB2.out.size)))
      have hnn : Nonempty (Later (wr.alloc (.cells #[.int .i64 k, .func (.func f) #[] caps] 91))) := ⟨⟨_, Below.refl _ _⟩⟩
      have l1 := Later.cell x1
      refine region_later (by kernel_rfl) (by kernel_rfl) ?_
      repeat (quiet_step ((refine Calls.later (HC2.out _))))
      refine wpQuiet_nil ?_
      rintro _ ⟨p, rfl⟩
      have HB3 := hid (HB2.out.trans (p.hb.mono HB2.out.size))
      have y0 := Later.cell x0 p
      clear l1 HC2 hnn x0 x1 c0 c1
      by_cases hn1 : n = -1
      · subst hn1
        have HE := hid (HP.out.trans (if_pos rfl))
        clear HP
        go_wp2
        go_ret2
        exact ⟨ret_pair (by rw [HE.out]) (by rw [HE.out]; simp), HB3.out⟩
      · have hnb : (n == -1) = false := by simpa using hn1
        have HE1 := hid (HP.out.trans (if_neg hn1))
        by_cases hn2 : 0 < n
        · have HE := hid (HE1.out.trans (if_pos hn2))
          clear HP HE1 hn1
          go_wp2
          go_ret2
          exact ⟨ret_pair (by rw [HE.out]) (by rw [HE.out]), HB3.out⟩
        · have HE := hid (HE1.out.trans (if_neg hn2))
          clear HP HE1 hn1
          go_wp2
          go_roundw
          case rel => exact ⟨j + 1, by omega, by go_num, HB3.out, HE.out⟩
          case measure => simp [intOf]; omega
    · have HE : Hid (pick (es.map kindSize) = (6, 1)) := by show _ = _; rw [HR.out.2, List.drop_eq_nil_of_le (by omega)]; rfl
      have HB := hid HR.out.1
      clear hF HR
      go_wp2
      go_ret2
      exact ⟨ret_pair (by rw [HE.out]) (by rw [HE.out]), HB.out⟩
end
section
open Go.RowKit Go.Shelf

/-- What the library's variables hold. -/
def Env (w : World) : Prop := Mx w ∧ Lib.TabIs Tryd.prog w "strings.asciiSpace" .u8 Lib.asciiSpaceTab
theorem Env.below {w w' : World} (h : Env w) (hb : Below w.heap.size w w') : Env w' := ⟨h.1.below hb, Go.Joins.tab_stays (g := 1) (by kernel_rfl) h.2 hb (Nat.le_refl _)⟩

theorem ascii_of_all {s : ByteArray} (h : s.data.toList.all (fun b => decide (b.toNat < 128)) = true) : ∀ (j : Nat) b, s.data.toList[j]? = some b → b.toNat < 128 := by
  intro j b hb
  have := List.all_eq_true.1 h b (List.mem_of_getElem? hb)
  simpa using this

def signCells : Array Value := (signsL.map fun l => Value.string ⟨l.toArray⟩).toArray

set_option maxRecDepth 100000 in
theorem Signs_any (w : World) (hE : Env w) :
    Calls Tryd.prog 56 #[] w fun e w' => e = .returned (.slice (some ⟨w.heap.size, 0, none⟩) 48 48) ∧ w' = w.alloc (.cells signCells 9) := by
  go_enter Tryd.func56, Tryd.ntmps56
  go_wp2_with fail
  refine (Tryd.strings_Fields _ _ (by decide +kernel) (ascii_of_all (by decide +kernel)) hE.2).mono ?_
  rintro e w' ⟨rfl, hww⟩
  subst w'
  go_wp2
  go_ret
  exact ⟨by kernel_rfl, by kernel_rfl⟩

theorem quoted_any (q : UInt8) (w : World) :
    Calls Tryd.prog 59 #[.int .u8 (q.toNat : Int)] w fun e w' => e = .returned (.func (.func 78) #[] #[.pointer (some ⟨w.heap.size, 0, none⟩)]) ∧ w' = w.alloc (.cells #[.int .u8 (q.toNat : Int)] 5) := by
  go_enter Tryd.func59, Tryd.ntmps59
  go_wp2
  go_ret
  exact ⟨rfl, rfl⟩

/-- The shapes of the text at hand, by what they hold. -/
def theShapes (P0 q1 q2 B : Nat) (l : List UInt8) (path : Bool) : List Shape :=
  [⟨1, 57, #[], (nameSz l : Nat)⟩, ⟨2, 58, #[], (numSz l : Nat)⟩, ⟨4, 78, #[.pointer (some ⟨q1, 0, none⟩)], quotSz 34 l⟩,
   ⟨3, 78, #[.pointer (some ⟨q2, 0, none⟩)], quotSz 39 l⟩, ⟨7, 60, #[.pointer (some ⟨P0, 0, none⟩)], if path then (pathSz l : Nat) else 0⟩,
   ⟨5, 62, #[.pointer (some ⟨B, 0, none⟩)], (signSz l : Nat)⟩]
theorem shapes_sizes (P0 q1 q2 B : Nat) (l : List UInt8) (path : Bool) : (theShapes P0 q1 q2 B l path).map kindSize = sizes l path := rfl

def shapeCells (P0 q1 q2 B : Nat) : Array Value :=
  #[.int .i64 1, .func (.func 57) #[] #[], .int .i64 2, .func (.func 58) #[] #[], .int .i64 4, .func (.func 78) #[] #[.pointer (some ⟨q1, 0, none⟩)],
    .int .i64 3, .func (.func 78) #[] #[.pointer (some ⟨q2, 0, none⟩)], .int .i64 7, .func (.func 60) #[] #[.pointer (some ⟨P0, 0, none⟩)], .int .i64 5, .func (.func 62) #[] #[.pointer (some ⟨B, 0, none⟩)]]

/-- The memory that shapes lays. -/
def shapesW (w : World) (pv : Value) : World :=
  (((((w.alloc (.cells #[pv] 28)).alloc (.cells signCells 9)).alloc (.cells #[.slice (some ⟨w.heap.size + 1, 0, none⟩) 48 48] 32)).alloc (.cells #[.int .u8 34] 5)).alloc (.cells #[.int .u8 39] 5)).alloc
    (.cells (shapeCells w.heap.size (w.heap.size + 3) (w.heap.size + 4) (w.heap.size + 2)) 91)

set_option maxRecDepth 100000 in
set_option maxHeartbeats 1000000 in
theorem shapes_any (f : Nat) (caps : Array Value) (w : World) (hE : Env w) :
    Calls Tryd.prog 42 #[.func (.func f) #[] caps] w fun e w' => e = .returned (.slice (some ⟨w.heap.size + 5, 0, none⟩) 6 6) ∧ w' = shapesW w (.func (.func f) #[] caps) := by
  have HS := hid (Signs_any (w.alloc (.cells #[.func (.func f) #[] caps] 28)) (hE.below ((Below.refl _ w).alloc (Nat.le_refl _) _)))
  have HQ1 : Hid (∀ W, Calls Tryd.prog 59 #[.int .u8 34] W fun e w' => e = .returned (.func (.func 78) #[] #[.pointer (some ⟨W.heap.size, 0, none⟩)]) ∧ w' = W.alloc (.cells #[.int .u8 34] 5)) := fun W => quoted_any 34 W
  have HQ2 : Hid (∀ W, Calls Tryd.prog 59 #[.int .u8 39] W fun e w' => e = .returned (.func (.func 78) #[] #[.pointer (some ⟨W.heap.size, 0, none⟩)]) ∧ w' = W.alloc (.cells #[.int .u8 39] 5)) := fun W => quoted_any 39 W
  go_enter Tryd.func42, Tryd.ntmps42
  go_wp2_with fail
  refine HS.out.mono ?_
  rintro e w1 ⟨rfl, hww⟩
  subst w1
  go_wp2_with fail
  refine (HQ1.out _).mono ?_
  rintro e w1 ⟨rfl, hww⟩
  subst w1
  go_wp2_with fail
  refine (HQ2.out _).mono ?_
  rintro e w1 ⟨rfl, hww⟩
  subst w1
  go_wp2
  go_ret
  exact ⟨by simp, by simp [shapesW, shapeCells]⟩
end
section
open Go.RowKit Go.Shelf

/-- All that lay lies as it did, but some blocks. -/
structure Kept (X : Nat → Prop) (w w' : World) : Prop where
  os : w'.os = w.os
  tape : w'.tape = w.tape
  output : w'.output = w.output
  size : w.heap.size ≤ w'.heap.size
  block : ∀ k, k < w.heap.size → ¬ X k → w'.heap[k]? = w.heap[k]?
theorem Kept.refl (X : Nat → Prop) (w : World) : Kept X w w := ⟨rfl, rfl, rfl, Nat.le_refl _, fun _ _ _ => rfl⟩
theorem Kept.trans {X : Nat → Prop} {a b c : World} (h : Kept X a b) (k : Kept X b c) : Kept X a c :=
  ⟨k.os.trans h.os, k.tape.trans h.tape, k.output.trans h.output, Nat.le_trans h.size k.size, fun i hi hx => (k.block i (Nat.lt_of_lt_of_le hi h.size) hx).trans (h.block i hi hx)⟩
theorem kept_of_below {X : Nat → Prop} {w w' : World} (h : Below w.heap.size w w') : Kept X w w' := ⟨h.os, h.tape, h.output, h.size, fun k hk _ => h.block k hk⟩
theorem Kept.cell {X : Nat → Prop} {w w' : World} (h : Kept X w w') {p : Addr} (hp : p.block < w.heap.size) (hx : ¬ X p.block) : w'.cell? p = w.cell? p :=
  World.cell?_of_block (h.block _ hp hx)
theorem Kept.setCell {X : Nat → Prop} {w w' : World} (h : Kept X w w') {a : Addr} (hx : X a.block) (v : Value) : Kept X w (w'.setCell a v) := by
  refine h.trans ⟨rfl, rfl, rfl, by simp, fun k hk hk' => ?_⟩
  exact Below.heap_setCell w' a v k (fun e => hk' (e ▸ hx))
theorem Kept.below {X : Nat → Prop} {B : Nat} {w w' : World} (h : Kept X w w') (hB : B ≤ w.heap.size) (hx : ∀ k, k < B → ¬ X k) : Below B w w' :=
  ⟨h.os, h.tape, h.output, h.size, fun k hk => h.block k (Nat.lt_of_lt_of_le hk hB) (hx k hk)⟩
theorem Kept.mono {X Y : Nat → Prop} {w w' : World} (h : Kept X w w') (hy : ∀ k, X k → Y k) : Kept Y w w' :=
  ⟨h.os, h.tape, h.output, h.size, fun k hk hx => h.block k hk (fun hX => hx (hy k hX))⟩
theorem Kept.less {X : Nat → Prop} {w w' : World} (h : Kept X w w') {b : Nat} (hb : b < w.heap.size) : b < w'.heap.size := Nat.lt_of_lt_of_le hb h.size

/-- The blocks of the shapes, and what they hold. -/
structure Made (B0 : Nat) (w : World) (S P0 q1 q2 B b : Nat) (pv : Value) : Prop where
  lo : B0 ≤ S ∧ B0 ≤ P0 ∧ B0 ≤ q1 ∧ B0 ≤ q2 ∧ B0 ≤ B ∧ B0 ≤ b
  hi : S < w.heap.size ∧ P0 < w.heap.size ∧ q1 < w.heap.size ∧ q2 < w.heap.size ∧ B < w.heap.size ∧ b < w.heap.size
  sh : ∀ (j : Nat) v, (shapeCells P0 q1 q2 B)[j]? = some v → w.cell? ⟨S, j, none⟩ = some v
  c0 : w.cell? ⟨P0, 0, none⟩ = some pv
  c1 : w.cell? ⟨q1, 0, none⟩ = some (.int .u8 34)
  c2 : w.cell? ⟨q2, 0, none⟩ = some (.int .u8 39)
  c3 : w.cell? ⟨B, 0, none⟩ = some (.slice (some ⟨b, 0, none⟩) 48 48)
  sa : SAt w b signsL

theorem Made.kept {B0 : Nat} {w w' : World} {S P0 q1 q2 B b : Nat} {pv : Value} {X : Nat → Prop} (h : Made B0 w S P0 q1 q2 B b pv) (hk : Kept X w w') (hX : ∀ k, X k → k < B0) : Made B0 w' S P0 q1 q2 B b pv := by
  obtain ⟨l1, l2, l3, l4, l5, l6⟩ := h.lo
  obtain ⟨h1, h2, h3, h4, h5, h6⟩ := h.hi
  have N : ∀ k, B0 ≤ k → ¬ X k := fun k hk hx => by have := hX k hx; omega
  refine ⟨h.lo, ⟨hk.less h1, hk.less h2, hk.less h3, hk.less h4, hk.less h5, hk.less h6⟩, fun j v hv => ?_, ?_, ?_, ?_, ?_, ⟨hk.less h6, fun j x hx => ?_⟩⟩
  · rw [hk.cell (p := ⟨S, j, none⟩) h1 (N _ l1)]; exact h.sh j v hv
  · rw [hk.cell (p := ⟨P0, 0, none⟩) h2 (N _ l2)]; exact h.c0
  · rw [hk.cell (p := ⟨q1, 0, none⟩) h3 (N _ l3)]; exact h.c1
  · rw [hk.cell (p := ⟨q2, 0, none⟩) h4 (N _ l4)]; exact h.c2
  · rw [hk.cell (p := ⟨B, 0, none⟩) h5 (N _ l5)]; exact h.c3
  · rw [hk.cell (p := ⟨b, j, none⟩) h6 (N _ l6)]; exact h.sa.2 j x hx

theorem Made.shAt {B0 : Nat} {w : World} {S P0 q1 q2 B b : Nat} {pv : Value} (h : Made B0 w S P0 q1 q2 B b pv) (l : List UInt8) (path : Bool) : ShAt w S (theShapes P0 q1 q2 B l path) := by
  refine ⟨h.hi.1, fun j e he => ?_⟩
  match j, he with
  | 0, he => cases he; exact ⟨h.sh 0 _ rfl, h.sh 1 _ rfl⟩
  | 1, he => cases he; exact ⟨h.sh 2 _ rfl, h.sh 3 _ rfl⟩
  | 2, he => cases he; exact ⟨h.sh 4 _ rfl, h.sh 5 _ rfl⟩
  | 3, he => cases he; exact ⟨h.sh 6 _ rfl, h.sh 7 _ rfl⟩
  | 4, he => cases he; exact ⟨h.sh 8 _ rfl, h.sh 9 _ rfl⟩
  | 5, he => cases he; exact ⟨h.sh 10 _ rfl, h.sh 11 _ rfl⟩
  | j + 6, he => cases he

theorem alloc_at (w : World) (o : Obj) (k : Nat) : (w.alloc o).heap[k]? = if k = w.heap.size then some o else w.heap[k]? := by
  show (w.heap.push o)[k]? = _
  rw [Array.getElem?_push]

theorem made_shapes (w : World) (pv : Value) : Made w.heap.size (shapesW w pv) (w.heap.size + 5) w.heap.size (w.heap.size + 3) (w.heap.size + 4) (w.heap.size + 2) (w.heap.size + 1) pv ∧ Below w.heap.size w (shapesW w pv) := by
  have hb : Below w.heap.size w (shapesW w pv) := by
    unfold shapesW
    exact ((((((Below.refl _ w).alloc (Nat.le_refl _) _).alloc (by simp) _).alloc (by simp; omega) _).alloc (by simp; omega) _).alloc (by simp; omega) _).alloc (by simp; omega) _
  have hz : (shapesW w pv).heap.size = w.heap.size + 6 := by simp [shapesW]
  have g0 : (shapesW w pv).heap[w.heap.size]? = some (.cells #[pv] 28) := by
    simp only [shapesW, alloc_at, World.size_alloc]
    repeat (first | rw [if_pos (by omega)] | rw [if_neg (by omega)])
    exact if_pos trivial
  have g1 : (shapesW w pv).heap[w.heap.size + 1]? = some (.cells signCells 9) := by
    simp only [shapesW, alloc_at, World.size_alloc]
    repeat (first | rw [if_pos (by omega)] | rw [if_neg (by omega)])
    exact if_pos trivial
  have g2 : (shapesW w pv).heap[w.heap.size + 2]? = some (.cells #[.slice (some ⟨w.heap.size + 1, 0, none⟩) 48 48] 32) := by
    simp only [shapesW, alloc_at, World.size_alloc]
    repeat (first | rw [if_pos (by omega)] | rw [if_neg (by omega)])
    exact if_pos trivial
  have g3 : (shapesW w pv).heap[w.heap.size + 3]? = some (.cells #[.int .u8 34] 5) := by
    simp only [shapesW, alloc_at, World.size_alloc]
    repeat (first | rw [if_pos (by omega)] | rw [if_neg (by omega)])
    exact if_pos trivial
  have g4 : (shapesW w pv).heap[w.heap.size + 4]? = some (.cells #[.int .u8 39] 5) := by
    simp only [shapesW, alloc_at, World.size_alloc]
    repeat (first | rw [if_pos (by omega)] | rw [if_neg (by omega)])
    exact if_pos trivial
  have g5 : (shapesW w pv).heap[w.heap.size + 5]? = some (.cells (shapeCells w.heap.size (w.heap.size + 3) (w.heap.size + 4) (w.heap.size + 2)) 91) := by
    simp only [shapesW, alloc_at, World.size_alloc]
    repeat (first | rw [if_pos (by omega)] | rw [if_neg (by omega)])
    exact if_pos trivial
  refine ⟨⟨by omega, by omega, fun j v hv => ?_, ?_, ?_, ?_, ?_, by omega, fun j x hx => ?_⟩, hb⟩
  · rw [Go.Joins.cell_of_block g5]; exact hv
  · rw [Go.Joins.cell_of_block g0]; rfl
  · rw [Go.Joins.cell_of_block g3]; rfl
  · rw [Go.Joins.cell_of_block g4]; rfl
  · rw [Go.Joins.cell_of_block g2]; rfl
  · rw [Go.Joins.cell_of_block g1]
    simp only [signCells, List.getElem?_toArray, List.getElem?_map, hx, Option.map_some]

theorem shapes2_any (B b : Nat) (s : ByteArray) (w : World) (hB : w.cell? ⟨B, 0, none⟩ = some (.slice (some ⟨b, 0, none⟩) 48 48)) (hS : SAt w b signsL) :
    Calls Tryd.prog 62 #[.string s, .pointer (some ⟨B, 0, none⟩)] w fun e w' => e = .returned (.int .i64 (signSz s.data.toList : Nat)) ∧ Below w.heap.size w w' := by
  have HS : Hid (Calls Tryd.prog 63 #[.slice (some ⟨b, 0, none⟩) 48 48, .string s] w fun e w' => e = .returned (.int .i64 (signSz s.data.toList : Nat)) ∧ w' = w) := signSize_any b 48 signsL s w hS (by decide)
  clear hS
  go_enter Tryd.func62, Tryd.ntmps62
  go_wp2_with (go_at_call 63; refine HS.out.mono ?_; rintro e w' ⟨rfl, hww⟩; subst w')
  go_ret
  exact ⟨rfl, Below.refl _ _⟩

theorem shapes1_any (P0 f : Nat) (caps : Array Value) (pb : Bool) (s : ByteArray) (w : World) (hP : w.cell? ⟨P0, 0, none⟩ = some (.func (.func f) #[] caps)) (hs : s.size ≤ 1048576)
    (eg : ∀ args W, (callFunc f args).run Tryd.prog W = .ok (.enter f args) W) (hf : Calls Tryd.prog f caps w fun e w' => e = .returned (.bool pb) ∧ Below w.heap.size w w') :
    Calls Tryd.prog 60 #[.string s, .pointer (some ⟨P0, 0, none⟩)] w fun e w' => e = .returned (.int .i64 (if pb then ((pathSz s.data.toList : Nat) : Int) else 0)) ∧ Below w.heap.size w w' := by
  have HF := hid hf
  have HP := hid (fun W => pathSize_any s W (by omega))
  clear hf
  cases pb with
  | false =>
    go_enter Tryd.func60, Tryd.ntmps60
    go_wp2_with (refine HF.out.mono ?_; rintro e w1 ⟨rfl, hb1⟩)
    go_ret
    exact ⟨rfl, hb1⟩
  | true =>
    go_enter Tryd.func60, Tryd.ntmps60
    go_wp2_with fail
    refine HF.out.mono ?_
    rintro e w1 ⟨rfl, hb1⟩
    have HB := hid hb1
    clear hb1
    go_wp2_with fail
    refine (HP.out _).mono ?_
    rintro e w2 ⟨rfl, hb2⟩
    have HB2 := hid (HB.out.trans (hb2.mono HB.out.size))
    clear hb2
    go_wp2
    go_ret
    exact ⟨rfl, HB2.out⟩

/-- Each shape measures the text at hand. -/
theorem Made.fits {B0 : Nat} {w : World} {S P0 q1 q2 B b f : Nat} {caps : Array Value} (h : Made B0 w S P0 q1 q2 B b (.func (.func f) #[] caps)) (s : ByteArray) (hs : s.size ≤ 1048576) (pb : Bool)
    (eg : ∀ args W, (callFunc f args).run Tryd.prog W = .ok (.enter f args) W) (hf : ∀ W, Below w.heap.size w W → Calls Tryd.prog f caps W fun e w' => e = .returned (.bool pb) ∧ Below W.heap.size W w') :
    ∀ e ∈ theShapes P0 q1 q2 B s.data.toList pb, e.Fits s w ∧ e.size ≤ 1048576 := by
  have hm : s.size ≤ maxLen := by unfold maxLen; omega
  have hl : s.data.toList.length ≤ 1048576 := by rw [size_data]; exact hs
  intro e he
  simp only [theShapes, List.mem_cons, List.not_mem_nil, or_false] at he
  rcases he with rfl | rfl | rfl | rfl | rfl | rfl
  · refine ⟨⟨enters_of Tryd.func57 (by kernel_rfl) rfl, fun W hW => nameSize_any s W hm⟩, ?_⟩
    have := nameSz_le s.data.toList
    simp only; omega
  · refine ⟨⟨enters_of Tryd.func58 (by kernel_rfl) rfl, fun W hW => numberSize_any s W hm⟩, ?_⟩
    have := numSz_le s.data.toList
    simp only; omega
  · refine ⟨⟨enters_of Tryd.func78 (by kernel_rfl) rfl, fun W hW => quoted1_any s 34 q1 W hm ((hW.cell (p := ⟨q1, 0, none⟩) h.hi.2.2.1).trans h.c1)⟩, ?_⟩
    have := quotSz_le 34 s.data.toList
    simp only; omega
  · refine ⟨⟨enters_of Tryd.func78 (by kernel_rfl) rfl, fun W hW => quoted1_any s 39 q2 W hm ((hW.cell (p := ⟨q2, 0, none⟩) h.hi.2.2.2.1).trans h.c2)⟩, ?_⟩
    have := quotSz_le 39 s.data.toList
    simp only; omega
  · refine ⟨⟨enters_of Tryd.func60 (by kernel_rfl) rfl, fun W hW => shapes1_any P0 f caps pb s W ((hW.cell (p := ⟨P0, 0, none⟩) h.hi.2.1).trans h.c0) hs eg (hf W hW)⟩, ?_⟩
    have := pathSz_le s.data.toList
    cases pb <;> simp <;> omega
  · refine ⟨⟨enters_of Tryd.func62 (by kernel_rfl) rfl, fun W hW => shapes2_any B b s W ((hW.cell (p := ⟨B, 0, none⟩) h.hi.2.2.2.2.1).trans h.c3) (h.sa.below hW)⟩, ?_⟩
    have := signSz_le s.data.toList
    simp only; omega
end
section
open Go.RowKit Go.Shelf

abbrev pathFn (H : Nat) : Value := .func (.func 43) #[] #[.pointer (some ⟨H + 3, 0, none⟩), .pointer (some ⟨H + 1, 0, none⟩)]

/-- The variables of pieces, in blocks from H on. -/
structure PSt (w : World) (H : Nat) (s : ByteArray) (gv : Value) (i : Nat) : Prop where
  size : H + 10 < w.heap.size
  cS : w.cell? ⟨H, 0, none⟩ = some (.string s)
  cI : w.cell? ⟨H + 1, 0, none⟩ = some gv
  bA : w.heap[H + 2]? = some (.cells #[.int .i64 (i : Int)] 3)
  bP : ∃ v0 v1 v2 v3 v4, w.heap[H + 3]? = some (.cells #[v0, v1, v2, v3, v4] 64)
  cAll : w.cell? ⟨H + 10, 0, none⟩ = some (.slice (some ⟨H + 9, 0, none⟩) 6 6)
  made : Made (H + 4) w (H + 9) (H + 4) (H + 7) (H + 8) (H + 6) (H + 5) (pathFn H)

/-- The four variables that pieces lays first. -/
def fourW (w : World) (s : ByteArray) (gv : Value) : World :=
  (((w.alloc (.cells #[.string s] 9)).alloc (.cells #[gv] 28)).alloc (.cells #[.int .i64 0] 3)).alloc (.cells #[.int .i64 0, .int .i64 0, .int .i64 0, .bool false, .bool false] 64)
theorem four_facts (w : World) (s : ByteArray) (gv : Value) : (fourW w s gv).heap.size = w.heap.size + 4 ∧ Below w.heap.size w (fourW w s gv) ∧ (fourW w s gv).heap[w.heap.size]? = some (.cells #[.string s] 9) ∧
    (fourW w s gv).heap[w.heap.size + 1]? = some (.cells #[gv] 28) ∧ (fourW w s gv).heap[w.heap.size + 2]? = some (.cells #[.int .i64 0] 3) ∧
    (fourW w s gv).heap[w.heap.size + 3]? = some (.cells #[.int .i64 0, .int .i64 0, .int .i64 0, .bool false, .bool false] 64) := by
  refine ⟨by simp [fourW], ?_, ?_, ?_, ?_, ?_⟩
  · unfold fourW
    exact ((((Below.refl _ w).alloc (Nat.le_refl _) _).alloc (by simp) _).alloc (by simp; omega) _).alloc (by simp; omega) _
  all_goals
    simp only [fourW, alloc_at, World.size_alloc]
    repeat (first | rw [if_pos (by omega)] | rw [if_neg (by omega)])
    exact if_pos trivial

theorem pst_start (w : World) (s : ByteArray) (gv : Value) : PSt ((shapesW (fourW w s gv) (pathFn w.heap.size)).alloc (.cells #[.slice (some ⟨(fourW w s gv).heap.size + 5, 0, none⟩) 6 6] 75)) w.heap.size s gv 0 ∧
    Below w.heap.size w ((shapesW (fourW w s gv) (pathFn w.heap.size)).alloc (.cells #[.slice (some ⟨(fourW w s gv).heap.size + 5, 0, none⟩) 6 6] 75)) := by
  obtain ⟨h1, h2, g0, g1, g2, g3⟩ := four_facts w s gv
  obtain ⟨hm, hb⟩ := made_shapes (fourW w s gv) (pathFn w.heap.size)
  have hz : (shapesW (fourW w s gv) (pathFn w.heap.size)).heap.size = w.heap.size + 10 := by simp [shapesW, h1]
  rw [h1] at hm hb
  generalize hW4 : fourW w s gv = W4 at *
  have hb2 : Below W4.heap.size W4 ((shapesW W4 (pathFn w.heap.size)).alloc (.cells #[.slice (some ⟨W4.heap.size + 5, 0, none⟩) 6 6] 75)) := by rw [h1]; exact hb.alloc (by omega) _
  have K : ∀ k o, W4.heap[k]? = some o → k < W4.heap.size → ((shapesW W4 (pathFn w.heap.size)).alloc (.cells #[.slice (some ⟨W4.heap.size + 5, 0, none⟩) 6 6] 75)).heap[k]? = some o := fun k o h hk => (hb2.block k hk).trans h
  have hnew := heap_alloc_new (shapesW W4 (pathFn w.heap.size)) (.cells #[.slice (some ⟨W4.heap.size + 5, 0, none⟩) 6 6] 75)
  rw [hz] at hnew
  have hmade := hm.kept (X := fun _ => False) (kept_of_below ((Below.refl _ (shapesW W4 (pathFn w.heap.size))).alloc (Nat.le_refl _) (.cells #[.slice (some ⟨W4.heap.size + 5, 0, none⟩) 6 6] 75))) (fun _ h => h.elim)
  refine ⟨⟨by simp; omega, ?_, ?_, K _ _ g2 (by omega), ⟨_, _, _, _, _, K _ _ g3 (by omega)⟩, ?_, hmade⟩, h2.trans (hb2.mono (by omega))⟩
  · rw [Go.Joins.cell_of_block (K _ _ g0 (by omega))]; rfl
  · rw [Go.Joins.cell_of_block (K _ _ g1 (by omega))]; rfl
  · rw [Go.Joins.cell_of_block hnew, h1]; rfl

set_option maxRecDepth 100000 in
set_option maxHeartbeats 1000000 in
theorem pieces_any (s : ByteArray) (g : Nat) (gcaps : Array Value) (w : World) (hE : Env w) :
    Calls Tryd.prog 25 #[.string s, .func (.func g) #[] gcaps] w fun e w' =>
      e = .returned (.func (.func 44) #[] #[.pointer (some ⟨w.heap.size + 2, 0, none⟩), .pointer (some ⟨w.heap.size + 3, 0, none⟩), .pointer (some ⟨w.heap.size, 0, none⟩), .pointer (some ⟨w.heap.size + 10, 0, none⟩)]) ∧
      PSt w' w.heap.size s (.func (.func g) #[] gcaps) 0 ∧ Below w.heap.size w w' := by
  have HS := hid (fun W (h : Env W) => shapes_any 43 #[.pointer (some ⟨w.heap.size + 3, 0, none⟩), .pointer (some ⟨w.heap.size + 1, 0, none⟩)] W h)
  go_enter Tryd.func25, Tryd.ntmps25
  go_wp2_with fail
  refine (HS.out (fourW w s (.func (.func g) #[] gcaps)) (hE.below (four_facts w s _).2.1)).mono ?_
  rintro e w1 ⟨rfl, hww⟩
  subst w1
  have hps := pst_start w s (.func (.func g) #[] gcaps)
  have hz : (shapesW (fourW w s (.func (.func g) #[] gcaps)) (pathFn w.heap.size)).heap.size = w.heap.size + 10 := by simp [shapesW, (four_facts w s (.func (.func g) #[] gcaps)).1]
  generalize shapesW (fourW w s (.func (.func g) #[] gcaps)) (pathFn w.heap.size) = W at hz hps ⊢
  have HPS := hid hps
  clear hps
  go_wp2
  go_ret
  exact ⟨by simp, HPS.out⟩
end
section
open Go.RowKit Go.Shelf

theorem pieces1_any (H g : Nat) (gcaps : Array Value) (fi inc : Bool) (w : World) (hP : w.cell? ⟨H + 3, 4, none⟩ = some (.bool fi)) (hI : w.cell? ⟨H + 1, 0, none⟩ = some (.func (.func g) #[] gcaps))
    (eg : ∀ args W, (callFunc g args).run Tryd.prog W = .ok (.enter g args) W) (hg : Calls Tryd.prog g gcaps w fun e w' => e = .returned (.bool inc) ∧ Below w.heap.size w w') :
    Calls Tryd.prog 43 #[.pointer (some ⟨H + 3, 0, none⟩), .pointer (some ⟨H + 1, 0, none⟩)] w fun e w' => e = .returned (.bool (!fi && inc)) ∧ Below w.heap.size w w' := by
  have HG := hid hg
  clear hg
  cases fi with
  | true =>
    go_enter Tryd.func43, Tryd.ntmps43
    go_wp2
    go_ret
    exact ⟨rfl, Below.refl _ _⟩
  | false =>
    go_enter Tryd.func43, Tryd.ntmps43
    go_wp2_with fail
    refine HG.out.mono ?_
    rintro e w1 ⟨rfl, hb1⟩
    have HB := hid hb1
    clear hb1
    go_wp2
    go_ret
    exact ⟨by simp, HB.out⟩

theorem pick_nonneg : ∀ (ss : List (Int × Int)), 0 ≤ (pick ss).2
  | [] => by simp [pick]
  | (k, n) :: r => by
    unfold pick
    split
    · simp
    · split
      · simp only; omega
      · exact pick_nonneg r

theorem pick_bound (N : Int) (hN : 1 ≤ N) : ∀ (ss : List (Int × Int)), (∀ p ∈ ss, p.2 ≤ N) → (pick ss).2 ≤ N
  | [], _ => by simp [pick]; omega
  | (k, n) :: r, h => by
    have h0 := h (k, n) (by simp)
    unfold pick
    split
    · simp only; omega
    · split
      · exact h0
      · exact pick_bound N hN r (fun p hp => h p (by simp [hp]))

/-- The piece that comes next, of kind 0 at the end, of kind -1 where one has no end. -/
def nextPc (s : List UInt8) (i : Nat) (inc : Bool) : Pc :=
  let g := skip s i false (i == 0)
  if g.lacks then ⟨-1, g.to, 0, false, false⟩
  else if s.length ≤ g.to then ⟨0, 0, 0, false, false⟩
  else let m := pick (sizes (s.drop g.to) (!g.first && inc)); ⟨m.1, g.to, g.to + m.2.toNat, g.space, g.first⟩
/-- And where the next one is looked for. -/
def nextAt (s : List UInt8) (i : Nat) (inc : Bool) : Nat :=
  let g := skip s i false (i == 0)
  if g.lacks then g.to
  else if s.length ≤ g.to then g.to
  else g.to + (pick (sizes (s.drop g.to) (!g.first && inc))).2.toNat
def pieceV (p : Pc) : Value := .agg #[.int .i64 p.kind, .int .i64 (p.lo : Int), .int .i64 (p.hi : Int), .bool p.space, .bool p.first]

/-- The two variables that turn. -/
def turnX (H : Nat) : Nat → Prop := fun k => k = H + 2 ∨ k = H + 3

theorem block_facts {w : World} {b : Nat} {c : Array Value} {T : TypeId} (h : w.heap[b]? = some (.cells c T)) : ∀ i, w.cell? ⟨b, i, none⟩ = c[i]? ∧ w.frozen? ⟨b, i, none⟩ = false := by
  intro i
  simp [World.cell?, World.frozen?, h]

/-- The variables while what is blank is passed by. -/
structure NSt (w0 : World) (H a p : Nat) (k : Nat) (sp fi : Bool) (w : World) : Prop where
  kept : Kept (turnX H) w0 w
  bA : w.heap[a]? = some (.cells #[.int .i64 (k : Int)] 3)
  bP : w.heap[p]? = some (.cells #[.int .i64 0, .int .i64 0, .int .i64 0, .bool sp, .bool fi] 64)
  bR : w.heap[w0.heap.size]? = some (.cells #[.int .i64 0, .int .i64 0, .int .i64 0, .bool false, .bool false] 64)

theorem lt_of_block {w : World} {b : Nat} {o : Obj} (h : w.heap[b]? = some o) : b < w.heap.size := (Array.getElem?_eq_some_iff.1 h).1

theorem NSt.below {w0 : World} {H a p k : Nat} {sp fi : Bool} {w w' : World} (h : NSt w0 H a p k sp fi w) (hb : Below w.heap.size w w') : NSt w0 H a p k sp fi w' :=
  ⟨h.kept.trans (kept_of_below hb), (hb.block _ (lt_of_block h.bA)).trans h.bA, (hb.block _ (lt_of_block h.bP)).trans h.bP, (hb.block _ (lt_of_block h.bR)).trans h.bR⟩

theorem five_set {w : World} {g : Nat} {a0 a1 a2 a3 a4 : Value} {T : TypeId} (h : w.heap[g]? = some (.cells #[a0, a1, a2, a3, a4] T)) (x0 x1 x2 x3 x4 : Value) :
    (((((w.setCell ⟨g, 0, none⟩ x0).setCell ⟨g, 1, none⟩ x1).setCell ⟨g, 2, none⟩ x2).setCell ⟨g, 3, none⟩ x3).setCell ⟨g, 4, none⟩ x4).heap[g]? = some (.cells #[x0, x1, x2, x3, x4] T) := by
  have h0 := Go.Joins.block_setCell (i := 0) h x0
  have h1 := Go.Joins.block_setCell (i := 1) h0 x1
  have h2 := Go.Joins.block_setCell (i := 2) h1 x2
  have h3 := Go.Joins.block_setCell (i := 3) h2 x3
  have h4 := Go.Joins.block_setCell (i := 4) h3 x4
  simpa using h4
theorem five_far (w : World) (g k : Nat) (x0 x1 x2 x3 x4 : Value) (hne : k ≠ g) :
    (((((w.setCell ⟨g, 0, none⟩ x0).setCell ⟨g, 1, none⟩ x1).setCell ⟨g, 2, none⟩ x2).setCell ⟨g, 3, none⟩ x3).setCell ⟨g, 4, none⟩ x4).heap[k]? = w.heap[k]? := by
  rw [Below.heap_setCell _ _ _ _ hne, Below.heap_setCell _ _ _ _ hne, Below.heap_setCell _ _ _ _ hne, Below.heap_setCell _ _ _ _ hne, Below.heap_setCell _ _ _ _ hne]
theorem five_kept {X : Nat → Prop} {w0 w : World} {g : Nat} (h : Kept X w0 w) (hx : X g) (x0 x1 x2 x3 x4 : Value) :
    Kept X w0 (((((w.setCell ⟨g, 0, none⟩ x0).setCell ⟨g, 1, none⟩ x1).setCell ⟨g, 2, none⟩ x2).setCell ⟨g, 3, none⟩ x3).setCell ⟨g, 4, none⟩ x4) :=
  ((((h.setCell (a := ⟨g, 0, none⟩) hx x0).setCell (a := ⟨g, 1, none⟩) hx x1).setCell (a := ⟨g, 2, none⟩) hx x2).setCell (a := ⟨g, 3, none⟩) hx x3).setCell (a := ⟨g, 4, none⟩) hx x4

/-- A block beyond those that lay may turn. -/
theorem Kept.setFar {X : Nat → Prop} {w0 w : World} (h : Kept X w0 w) {a : Addr} (hg : w0.heap.size ≤ a.block) (v : Value) : Kept X w0 (w.setCell a v) :=
  ⟨h.os, h.tape, h.output, by simp; exact h.size, fun k hk hx => (Below.heap_setCell w a v k (by omega)).trans (h.block k hk hx)⟩

theorem nst_start {w : World} {H a p i : Nat} (hp : turnX H p) (hap : a ≠ p) (hA : w.heap[a]? = some (.cells #[.int .i64 (i : Int)] 3)) {v0 v1 v2 v3 v4 : Value} (hP : w.heap[p]? = some (.cells #[v0, v1, v2, v3, v4] 64)) (fi : Bool) :
    NSt w H a p i false fi ((((((w.setCell ⟨p, 0, none⟩ (.int .i64 0)).setCell ⟨p, 1, none⟩ (.int .i64 0)).setCell ⟨p, 2, none⟩ (.int .i64 0)).setCell ⟨p, 3, none⟩ (.bool false)).setCell ⟨p, 4, none⟩ (.bool fi)).alloc
      (.cells #[.int .i64 0, .int .i64 0, .int .i64 0, .bool false, .bool false] 64)) := by
  have hk := five_kept (Kept.refl (turnX H) w) hp (.int .i64 0) (.int .i64 0) (.int .i64 0) (.bool false) (.bool fi)
  have hA' := (five_far w p a (.int .i64 0) (.int .i64 0) (.int .i64 0) (.bool false) (.bool fi) hap).trans hA
  have hP' := five_set hP (.int .i64 0) (.int .i64 0) (.int .i64 0) (.bool false) (.bool fi)
  have hz : (((((w.setCell ⟨p, 0, none⟩ (.int .i64 0)).setCell ⟨p, 1, none⟩ (.int .i64 0)).setCell ⟨p, 2, none⟩ (.int .i64 0)).setCell ⟨p, 3, none⟩ (.bool false)).setCell ⟨p, 4, none⟩ (.bool fi)).heap.size = w.heap.size := by simp
  generalize (((((w.setCell ⟨p, 0, none⟩ (.int .i64 0)).setCell ⟨p, 1, none⟩ (.int .i64 0)).setCell ⟨p, 2, none⟩ (.int .i64 0)).setCell ⟨p, 3, none⟩ (.bool false)).setCell ⟨p, 4, none⟩ (.bool fi)) = W at *
  have hb := (Below.refl W.heap.size W).alloc (Nat.le_refl _) (.cells #[.int .i64 0, .int .i64 0, .int .i64 0, .bool false, .bool false] 64)
  have hn := heap_alloc_new W (.cells #[.int .i64 0, .int .i64 0, .int .i64 0, .bool false, .bool false] 64)
  rw [hz] at hn
  exact ⟨hk.trans (kept_of_below hb), (hb.block _ (lt_of_block hA')).trans hA', (hb.block _ (lt_of_block hP')).trans hP', hn⟩

theorem NSt.step {w0 : World} {H a p k : Nat} {sp fi : Bool} {w : World} (h : NSt w0 H a p k sp fi w) (ha : turnX H a) (hp : turnX H p) (hap : a ≠ p) (hR1 : a < w0.heap.size) (hR2 : p < w0.heap.size) (k' : Nat) (fi' : Bool) :
    NSt w0 H a p k' true fi' (((w.setCell ⟨p, 3, none⟩ (.bool true)).setCell ⟨p, 4, none⟩ (.bool fi')).setCell ⟨a, 0, none⟩ (.int .i64 (k' : Int))) := by
  refine ⟨((h.kept.setCell (a := ⟨p, 3, none⟩) hp _).setCell (a := ⟨p, 4, none⟩) hp _).setCell (a := ⟨a, 0, none⟩) ha _, ?_, ?_, ?_⟩
  · have h1 : ((w.setCell ⟨p, 3, none⟩ (.bool true)).setCell ⟨p, 4, none⟩ (.bool fi')).heap[a]? = some (.cells #[.int .i64 (k : Int)] 3) := by
      rw [Below.heap_setCell _ _ _ _ hap, Below.heap_setCell _ _ _ _ hap]; exact h.bA
    simpa using Go.Joins.block_setCell (i := 0) h1 (.int .i64 (k' : Int))
  · rw [Below.heap_setCell _ _ _ _ (Ne.symm hap)]
    have h1 := Go.Joins.block_setCell (i := 3) h.bP (.bool true)
    have h2 := Go.Joins.block_setCell (i := 4) h1 (.bool fi')
    simpa using h2
  · rw [Below.heap_setCell _ _ _ _ (by simp only; omega), Below.heap_setCell _ _ _ _ (by simp only; omega), Below.heap_setCell _ _ _ _ (by simp only; omega)]; exact h.bR

theorem piece_ret {f : Func} (hr : f.results = #[.cell 4 64]) {w : World} {g : Nat} {x0 x1 x2 x3 x4 : Value} (hR : w.heap[g]? = some (.cells #[x0, x1, x2, x3, x4] 64)) (tmps : Array Value) (hp : tmps.getD 4 undef = .pointer (some ⟨g, 0, none⟩)) :
    (results f tmps).run Tryd.prog w = .ok (.agg #[x0, x1, x2, x3, x4]) w :=
  results_cell_row hr tmps _ g 64 #[x0, x1, x2, x3, x4] (0, 0) _ hp hR Tryd.underlying64 rfl (by kernel_rfl)

/-- The variables stand, whatever the result's own block holds. -/
theorem pst_of {w0 : World} {H k' : Nat} {w' : World} {s : ByteArray} {gv : Value} {i : Nat} {v0 v1 v2 v3 v4 : Value} (hst : PSt w0 H s gv i) (hk : Kept (turnX H) w0 w')
    (bA : w'.heap[H + 2]? = some (.cells #[.int .i64 (k' : Int)] 3)) (bP : w'.heap[H + 3]? = some (.cells #[v0, v1, v2, v3, v4] 64)) : PSt w' H s gv k' := by
  have hz := hst.size
  have N : ∀ j, j ≠ 2 → j ≠ 3 → ¬ turnX H (H + j) := fun j h2 h3 h => by rcases h with h | h <;> omega
  refine ⟨Nat.lt_of_lt_of_le hz hk.size, ?_, ?_, bA, ⟨_, _, _, _, _, bP⟩, ?_, hst.made.kept hk (fun j hj => by rcases hj with h | h <;> omega)⟩
  · rw [hk.cell (p := ⟨H, 0, none⟩) (by simp only; omega) (N 0 (by omega) (by omega))]; exact hst.cS
  · rw [hk.cell (p := ⟨H + 1, 0, none⟩) (by simp only; omega) (N 1 (by omega) (by omega))]; exact hst.cI
  · rw [hk.cell (p := ⟨H + 10, 0, none⟩) (by simp only; omega) (N 10 (by omega) (by omega))]; exact hst.cAll
theorem Mx.kept {H : Nat} {w W : World} (h : Mx w) (hg : 0 < H) (hk : Kept (turnX H) w W) : Mx W := by
  obtain ⟨m, hm⟩ := h
  refine ⟨m, ?_⟩
  rw [hk.cell (p := ⟨0, 0, none⟩) (World.block_lt_of_cell? _ _ hm) (fun h => by rcases h with h | h <;> (simp only at h; omega))]
  exact hm

/-- What the walk asks of the variables. -/
theorem NSt.facts {w0 : World} {H a p k : Nat} {sp fi : Bool} {w : World} (h : NSt w0 H a p k sp fi w) :
    (w.cell? ⟨a, 0, none⟩ = some (.int .i64 (k : Int)) ∧ w.frozen? ⟨a, 0, none⟩ = false) ∧ (w.cell? ⟨p, 3, none⟩ = some (.bool sp) ∧ w.frozen? ⟨p, 3, none⟩ = false) ∧ (w.cell? ⟨p, 4, none⟩ = some (.bool fi) ∧ w.frozen? ⟨p, 4, none⟩ = false) ∧
    (∀ i, i < 5 → (w.cell? ⟨p, i, none⟩).isSome = true ∧ w.frozen? ⟨p, i, none⟩ = false) ∧ (a < w.heap.size ∧ p < w.heap.size ∧ w0.heap.size < w.heap.size) := by
  refine ⟨?_, ?_, ?_, fun i hi => ?_, lt_of_block h.bA, lt_of_block h.bP, lt_of_block h.bR⟩
  · simpa using block_facts h.bA 0
  · simpa using block_facts h.bP 3
  · simpa using block_facts h.bP 4
  · obtain ⟨h1, h2⟩ := block_facts h.bP i
    refine ⟨?_, h2⟩
    rw [h1]
    match i, hi with
    | 0, _ => rfl
    | 1, _ => rfl
    | 2, _ => rfl
    | 3, _ => rfl
    | 4, _ => rfl

theorem end_res {w wr : World} {H : Nat} {s : ByteArray} {gv : Value} {i k' : Nat} {v0 v1 v2 v3 v4 r0 r1 r2 r3 r4 : Value} (hst : PSt w H s gv i) (hk : Kept (turnX H) w wr) (bA : wr.heap[H + 2]? = some (.cells #[.int .i64 (k' : Int)] 3)) (bP : wr.heap[H + 3]? = some (.cells #[v0, v1, v2, v3, v4] 64))
    (bR : wr.heap[w.heap.size]? = some (.cells #[r0, r1, r2, r3, r4] 64)) (x0 x1 x2 x3 x4 : Value) :
    PSt (((((wr.setCell ⟨w.heap.size, 0, none⟩ x0).setCell ⟨w.heap.size, 1, none⟩ x1).setCell ⟨w.heap.size, 2, none⟩ x2).setCell ⟨w.heap.size, 3, none⟩ x3).setCell ⟨w.heap.size, 4, none⟩ x4) H s gv k' ∧
    Kept (turnX H) w (((((wr.setCell ⟨w.heap.size, 0, none⟩ x0).setCell ⟨w.heap.size, 1, none⟩ x1).setCell ⟨w.heap.size, 2, none⟩ x2).setCell ⟨w.heap.size, 3, none⟩ x3).setCell ⟨w.heap.size, 4, none⟩ x4) ∧
    (((((wr.setCell ⟨w.heap.size, 0, none⟩ x0).setCell ⟨w.heap.size, 1, none⟩ x1).setCell ⟨w.heap.size, 2, none⟩ x2).setCell ⟨w.heap.size, 3, none⟩ x3).setCell ⟨w.heap.size, 4, none⟩ x4).heap[w.heap.size]? = some (.cells #[x0, x1, x2, x3, x4] 64) := by
  have hz := hst.size
  have hK : Kept (turnX H) w (((((wr.setCell ⟨w.heap.size, 0, none⟩ x0).setCell ⟨w.heap.size, 1, none⟩ x1).setCell ⟨w.heap.size, 2, none⟩ x2).setCell ⟨w.heap.size, 3, none⟩ x3).setCell ⟨w.heap.size, 4, none⟩ x4) :=
    ((((hk.setFar (a := ⟨w.heap.size, 0, none⟩) (Nat.le_refl _) x0).setFar (a := ⟨w.heap.size, 1, none⟩) (Nat.le_refl _) x1).setFar (a := ⟨w.heap.size, 2, none⟩) (Nat.le_refl _) x2).setFar (a := ⟨w.heap.size, 3, none⟩) (Nat.le_refl _) x3).setFar (a := ⟨w.heap.size, 4, none⟩) (Nat.le_refl _) x4
  have f1 := (five_far wr w.heap.size (H + 2) x0 x1 x2 x3 x4 (by omega)).trans bA
  have f2 := (five_far wr w.heap.size (H + 3) x0 x1 x2 x3 x4 (by omega)).trans bP
  exact ⟨pst_of hst hK f1 f2, hK, five_set bR x0 x1 x2 x3 x4⟩

theorem nextPc_lacks {s : List UInt8} {i k : Nat} {sp fi inc : Bool} (h : skip s i false (i == 0) = ⟨k, sp, fi, true⟩) : nextPc s i inc = ⟨-1, k, 0, false, false⟩ ∧ nextAt s i inc = k := by
  unfold nextPc nextAt; rw [h]; exact ⟨rfl, rfl⟩
theorem nextPc_end {s : List UInt8} {i k : Nat} {sp fi inc : Bool} (h : skip s i false (i == 0) = ⟨k, sp, fi, false⟩) (hk : s.length ≤ k) : nextPc s i inc = ⟨0, 0, 0, false, false⟩ ∧ nextAt s i inc = k := by
  unfold nextPc nextAt; rw [h]
  exact ⟨if_pos hk, if_pos hk⟩
theorem nextPc_one {s : List UInt8} {i k : Nat} {sp fi inc : Bool} (h : skip s i false (i == 0) = ⟨k, sp, fi, false⟩) (hk : ¬ s.length ≤ k) :
    nextPc s i inc = ⟨(pick (sizes (s.drop k) (!fi && inc))).1, k, k + (pick (sizes (s.drop k) (!fi && inc))).2.toNat, sp, fi⟩ ∧ nextAt s i inc = k + (pick (sizes (s.drop k) (!fi && inc))).2.toNat := by
  unfold nextPc nextAt; rw [h]
  exact ⟨if_neg hk, if_neg hk⟩

theorem skipF_zero (l : List UInt8) (f k : Nat) (sp fi : Bool) (hf : 0 < f) (h : blankSz (l.drop k) = 0) : skipF l f k sp fi = ⟨k, sp, fi, false⟩ := by
  cases f with
  | zero => omega
  | succ f => unfold skipF; rw [if_pos h]
theorem skipF_lacks (l : List UInt8) (f k : Nat) (sp fi : Bool) (hf : 0 < f) (h : blankSz (l.drop k) = -1) : skipF l f k sp fi = ⟨k, sp, fi, true⟩ := by
  cases f with
  | zero => omega
  | succ f => unfold skipF; rw [if_neg (by omega), if_pos (by omega)]
theorem skipF_on (l : List UInt8) (f k n : Nat) (sp fi : Bool) (hf : 0 < f) (h : blankSz (l.drop k) = (n : Int)) (hn : 0 < n) : skipF l f k sp fi = skipF l (f - 1) (k + n) true (fi || byteAt l k == 10) := by
  cases f with
  | zero => omega
  | succ f =>
    have e : skipF l (f + 1) k sp fi = if blankSz (l.drop k) = 0 then ⟨k, sp, fi, false⟩ else if blankSz (l.drop k) < 0 then ⟨k, sp, fi, true⟩ else skipF l f (k + (blankSz (l.drop k)).toNat) true (fi || byteAt l k == 10) := rfl
    rw [e, h, if_neg (by omega), if_neg (by omega)]
    rfl

set_option maxRecDepth 100000 in
set_option maxHeartbeats 2000000 in
theorem next_any (H g : Nat) (gcaps : Array Value) (s : ByteArray) (i : Nat) (inc : Bool) (w : World) (hst : PSt w H s (.func (.func g) #[] gcaps) i) (hM : Mx w) (hgl : 0 < H) (hi : i ≤ s.size) (hs : s.size ≤ 1048576)
    (eg : ∀ args W, (callFunc g args).run Tryd.prog W = .ok (.enter g args) W) (hg : ∀ W, Kept (turnX H) w W → Calls Tryd.prog g gcaps W fun e w' => e = .returned (.bool inc) ∧ Below W.heap.size W w') :
    Calls Tryd.prog 44 #[.pointer (some ⟨H + 2, 0, none⟩), .pointer (some ⟨H + 3, 0, none⟩), .pointer (some ⟨H, 0, none⟩), .pointer (some ⟨H + 10, 0, none⟩)] w fun e w' =>
      e = .returned (pieceV (nextPc s.data.toList i inc)) ∧ PSt w' H s (.func (.func g) #[] gcaps) (nextAt s.data.toList i inc) ∧ Kept (turnX H) w w' := by
  obtain ⟨v0, v1, v2, v3, v4, hbP⟩ := hst.bP
  have hA := block_facts hst.bA 0
  have hP0 := block_facts hbP 0
  have hP1 := block_facts hbP 1
  have hP2 := block_facts hbP 2
  have hP3 := block_facts hbP 3
  have hP4 := block_facts hbP 4
  have hcS := hst.cS
  have hR := hst.size
  simp at hA hP0 hP1 hP2 hP3 hP4
  obtain ⟨a1, a2⟩ := hA
  obtain ⟨p01, p02⟩ := hP0
  obtain ⟨p11, p12⟩ := hP1
  obtain ⟨p21, p22⟩ := hP2
  obtain ⟨p31, p32⟩ := hP3
  obtain ⟨p41, p42⟩ := hP4
  have HST := hid hst
  have HG := hid hg
  have HBA := hid hst.bA
  have HBP := hid hbP
  have HM := hid hM
  have HBl := hid (fun (S : ByteArray) W (h : Mx W) hs => blankSize_any S W h hs)
  clear hst hM hg hbP
  obtain ⟨a, hae⟩ : ∃ a, H + 2 = a := ⟨_, rfl⟩
  obtain ⟨p, hpe⟩ : ∃ p, H + 3 = p := ⟨_, rfl⟩
  obtain ⟨c, hce⟩ : ∃ c, H + 10 = c := ⟨_, rfl⟩
  rw [hae] at a1 a2 HBA ⊢
  rw [hpe] at p01 p02 p11 p12 p21 p22 p31 p32 p41 p42 HBP ⊢
  rw [hce] at hR ⊢
  have HXa : Hid (turnX H a) := Or.inl hae.symm
  have HXp : Hid (turnX H p) := Or.inr hpe.symm
  have n1 : a ≠ w.heap.size := by omega
  have n2 : p ≠ w.heap.size := by omega
  have n3 : H ≠ w.heap.size := by omega
  have m1 : a < w.heap.size := by omega
  have m2 : p < w.heap.size := by omega
  have m3 : H < w.heap.size := by omega
  have n4 : a ≠ p := by omega
  have n5 : H ≠ p := by omega
  have n6 : H ≠ a := by omega
  have HAE := hid hae
  have HPE := hid hpe
  have HCE := hid hce
  clear hae hpe hce
  go_enter Tryd.func44, Tryd.ntmps44
  go_wp2_with fail
  have HN0 := hid (nst_start (H := H) (i := i) HXp.out n4 HBA.out HBP.out ((i : Int) == 0))
  refine (HBl.out _ _ (HM.out.kept hgl HN0.out.kept) (by simp [ByteArray.size_extract]; omega)).mono ?_
  rintro e w1 ⟨rfl, hb1⟩
  have HN1 := hid (HN0.out.below hb1)
  have HD : Hid ((s.extract i s.size).data.toList = s.data.toList.drop i) := by show _ = _; rw [extract_data, ← size_data s, List.take_length]
  rw [HD.out]
  clear hb1 HN0 HD a1 a2 p01 p02 p11 p12 p21 p22 p31 p32 p41 p42 hcS
  have HI0 : Hid (((i : Int) == 0) = (i == 0)) := by show _ = _; apply bool_ext; simp
  rw [HI0.out] at HN1
  clear HI0
  have HZ := hid (size_data s)
  go_wp2_with fail
  go_loopg [5] (s.size - i) (fun g x wr => ∃ (k f : Nat) (sp fi : Bool), k + g = s.size ∧ x = .int .i64 (blankSz (s.data.toList.drop k)) ∧ Hid (s.size < k + f ∧ skip s.data.toList i false (i == 0) = skipF s.data.toList f k sp fi ∧ NSt w H a p k sp fi wr))
  case atStart => exact ⟨i, s.size + 1 - i, false, i == 0, by omega, rfl, by omega, by unfold skip; rw [HZ.out], HN1.out⟩
  case round =>
    clear HN1
    obtain ⟨k, f, sp, fi, hkg, rfl, HR⟩ := hrel
    have hkf := HR.out.1
    have HSk := hid HR.out.2.1
    have HN := hid HR.out.2.2
    clear HR
    obtain ⟨⟨a1, a2⟩, ⟨p31, p32⟩, ⟨p41, p42⟩, hp5, q1, q2, q3⟩ := HN.out.facts
    have hcS : wr.cell? ⟨H, 0, none⟩ = some (.string s) := (HN.out.kept.cell (p := ⟨H, 0, none⟩) m3 (fun h => by rcases h with h | h <;> (simp only at h; omega))).trans HST.out.cS
    have hr0 := block_facts HN.out.bR 0
    have hr1 := block_facts HN.out.bR 1
    have hr2 := block_facts HN.out.bR 2
    have hr3 := block_facts HN.out.bR 3
    have hr4 := block_facts HN.out.bR 4
    simp at hr0 hr1 hr2 hr3 hr4
    obtain ⟨r01, r02⟩ := hr0
    obtain ⟨r11, r12⟩ := hr1
    obtain ⟨r21, r22⟩ := hr2
    obtain ⟨r31, r32⟩ := hr3
    obtain ⟨r41, r42⟩ := hr4
    rcases hbl : blankSz_le (s.data.toList.drop k) with hb | ⟨hb1, hb2⟩
    · have HL := hid (nextPc_lacks (inc := inc) (HSk.out.trans (skipF_lacks _ f k sp fi (by omega) hb)))
      rw [hb]
      clear hp5 hbl
      have HEnd := hid (end_res HST.out HN.out.kept (by rw [HAE.out]; exact HN.out.bA) (by rw [HPE.out]; exact HN.out.bP) HN.out.bR (.int .i64 (-1)) (.int .i64 (k : Int)) (.int .i64 0) (.bool false) (.bool false))
      go_wp2
      refine bodyPost_ret (piece_ret rfl HEnd.out.2.2 _ rfl) rfl ⟨?_, ?_, HEnd.out.2.1⟩
      · rw [HL.out.1]; rfl
      · rw [HL.out.2]; exact HEnd.out.1
    · obtain ⟨n, hn⟩ : ∃ n : Nat, blankSz (s.data.toList.drop k) = n := ⟨(blankSz (s.data.toList.drop k)).toNat, by omega⟩
      rw [hn] at hb2
      rw [List.length_drop, HZ.out] at hb2
      have HN' := hid hn
      rw [hn]
      clear hb1 hbl hn
      by_cases hn0 : n = 0
      · subst hn0
        have HG2 := hid (HSk.out.trans (skipF_zero _ f k sp fi (by omega) HN'.out))
        rw [show (((0 : Nat) : Int)) = 0 from rfl]
        clear hp5 HSk HN'
        by_cases hke : k = s.size
        · have HL := hid (nextPc_end (inc := inc) HG2.out (by rw [HZ.out]; omega))
          have HEnd := hid (end_res HST.out HN.out.kept (by rw [HAE.out]; exact HN.out.bA) (by rw [HPE.out]; exact HN.out.bP) HN.out.bR (.int .i64 0) (.int .i64 0) (.int .i64 0) (.bool false) (.bool false))
          have hkb : ((k : Int) == (s.size : Int)) = true := by rw [hke]; simp
          clear hke
          go_wp2
          refine bodyPost_ret (piece_ret rfl HEnd.out.2.2 _ rfl) rfl ⟨?_, ?_, HEnd.out.2.1⟩
          · rw [HL.out.1]; rfl
          · rw [HL.out.2]; exact HEnd.out.1
        · have HL := hid (nextPc_one (inc := inc) HG2.out (by rw [HZ.out]; omega))
          have hkb : ((k : Int) == (s.size : Int)) = false := by simp; omega
          have hkl : k ≤ s.size := by omega
          have hcA : wr.cell? ⟨c, 0, none⟩ = some (.slice (some ⟨H + 9, 0, none⟩) 6 6) := by
            rw [← HCE.out, HN.out.kept.cell (p := ⟨H + 10, 0, none⟩) HST.out.size (fun h => by rcases h with h | h <;> (simp only at h; omega))]; exact HST.out.cAll
          have n7 : c ≠ p := by have := HCE.out; have := HPE.out; omega
          have n8 : c ≠ a := by have := HCE.out; have := HAE.out; omega
          have hp0 := block_facts HN.out.bP 0
          have hp1 := block_facts HN.out.bP 1
          have hp2 := block_facts HN.out.bP 2
          simp at hp0 hp1 hp2
          obtain ⟨p01, p02⟩ := hp0
          obtain ⟨p11, p12⟩ := hp1
          obtain ⟨p21, p22⟩ := hp2
          have kept1 := HN.out.kept.setCell (a := ⟨p, 1, none⟩) HXp.out (.int .i64 (k : Int))
          have made1 := HST.out.made.kept kept1 (fun j hj => by rcases hj with h | h <;> omega)
          have bP1 : (wr.setCell ⟨p, 1, none⟩ (.int .i64 (k : Int))).heap[p]? = some (.cells #[.int .i64 0, .int .i64 (k : Int), .int .i64 0, .bool sp, .bool fi] 64) := by simpa using Go.Joins.block_setCell (i := 1) HN.out.bP (.int .i64 (k : Int))
          have bA1 : (wr.setCell ⟨p, 1, none⟩ (.int .i64 (k : Int))).heap[a]? = some (.cells #[.int .i64 (k : Int)] 3) := (Below.heap_setCell _ _ _ _ n4).trans HN.out.bA
          have bR1 : (wr.setCell ⟨p, 1, none⟩ (.int .i64 (k : Int))).heap[w.heap.size]? = some (.cells #[.int .i64 0, .int .i64 0, .int .i64 0, .bool false, .bool false] 64) := (Below.heap_setCell _ _ _ _ (Ne.symm n2)).trans HN.out.bR
          have HMe : Hid (Calls Tryd.prog 46 #[.slice (some ⟨H + 9, 0, none⟩) 6 6, .string s, .int .i64 (k : Int)] (wr.setCell ⟨p, 1, none⟩ (.int .i64 (k : Int))) fun e w' => e = .returned (.tuple #[.int .i64 (pick (sizes (s.data.toList.drop k) (!fi && inc))).1, .int .i64 ((k : Int) + (pick (sizes (s.data.toList.drop k) (!fi && inc))).2)]) ∧ Below (wr.setCell ⟨p, 1, none⟩ (.int .i64 (k : Int))).heap.size (wr.setCell ⟨p, 1, none⟩ (.int .i64 (k : Int))) w') := by
            have hd : (s.extract k s.size).data.toList = s.data.toList.drop k := by rw [extract_data, ← size_data s, List.take_length]
            have hfit := made1.fits (s.extract k s.size) (by simp [ByteArray.size_extract]; omega) (!fi && inc) (enters_of Tryd.func43 (by kernel_rfl) rfl) (fun W hW => pieces1_any H g gcaps fi inc W
              (by rw [hW.cell (p := ⟨H + 3, 4, none⟩) (by rw [HPE.out]; exact lt_of_block bP1), HPE.out, (block_facts bP1 4).1]; rfl)
              (by rw [hW.cell (p := ⟨H + 1, 0, none⟩) (Nat.lt_of_lt_of_le (by have := HST.out.size; simp only; omega) kept1.size), kept1.cell (p := ⟨H + 1, 0, none⟩) (by have := HST.out.size; simp only; omega) (fun h => by rcases h with h | h <;> (simp only at h; omega))]; exact HST.out.cI)
              eg (HG.out W (kept1.trans (kept_of_below hW))))
            have := measure_any (H + 9) 6 k (theShapes (H + 4) (H + 7) (H + 8) (H + 6) (s.extract k s.size).data.toList (!fi && inc)) s _ (made1.shAt _ _) (by show 6 ≤ 1000; omega) hkl hs hfit
            rw [shapes_sizes, hd] at this
            exact this
          have hm2 := pick_nonneg (sizes (s.data.toList.drop k) (!fi && inc))
          have hm3 : (pick (sizes (s.data.toList.drop k) (!fi && inc))).2 ≤ 1048576 := by
            refine pick_bound _ (by omega) _ (fun e he => ?_)
            have h1 := (sizes_of _ _ e he).2
            rw [List.length_drop, HZ.out] at h1
            omega
          have HK1 := hid kept1
          have HP1 := hid bP1
          have HA1 := hid bA1
          have HR1 := hid bR1
          generalize pick (sizes (s.data.toList.drop k) (!fi && inc)) = m at HMe HL hm2 hm3
          obtain ⟨m1', m2'⟩ := m
          dsimp only at HMe HL hm2 hm3
          obtain ⟨q, rfl⟩ : ∃ q : Nat, m2' = q := ⟨m2'.toNat, by omega⟩
          clear kept1 made1 bP1 bA1 bR1
          go_wp2_with fail
          refine HMe.out.mono ?_
          rintro e w2 ⟨rfl, hb2⟩
          have hK2 := HK1.out.trans (kept_of_below hb2)
          have hP2 := (hb2.block _ (lt_of_block HP1.out)).trans HP1.out
          have hA2 := (hb2.block _ (lt_of_block HA1.out)).trans HA1.out
          have hR2 := (hb2.block _ (lt_of_block HR1.out)).trans HR1.out
          clear a1 a2 p01 p02 p11 p12 p21 p22 p31 p32 p41 p42 r01 r02 r11 r12 r21 r22 r31 r32 r41 r42 hcS hcA HMe q1 q2 q3 hb2 HK1 HP1 HA1 HR1 HN
          have hp0 := block_facts hP2 0
          have hp1 := block_facts hP2 1
          have hp2 := block_facts hP2 2
          have hp3 := block_facts hP2 3
          have hp4 := block_facts hP2 4
          have ha0 := block_facts hA2 0
          have hr0 := block_facts hR2 0
          have hr1 := block_facts hR2 1
          have hr2 := block_facts hR2 2
          have hr3 := block_facts hR2 3
          have hr4 := block_facts hR2 4
          simp at hp0 hp1 hp2 hp3 hp4 ha0 hr0 hr1 hr2 hr3 hr4
          obtain ⟨p01, p02⟩ := hp0
          obtain ⟨p11, p12⟩ := hp1
          obtain ⟨p21, p22⟩ := hp2
          obtain ⟨p31, p32⟩ := hp3
          obtain ⟨p41, p42⟩ := hp4
          obtain ⟨a1, a2⟩ := ha0
          obtain ⟨r01, r02⟩ := hr0
          obtain ⟨r11, r12⟩ := hr1
          obtain ⟨r21, r22⟩ := hr2
          obtain ⟨r31, r32⟩ := hr3
          obtain ⟨r41, r42⟩ := hr4
          have q1 := lt_of_block hA2
          have q2 := lt_of_block hP2
          have q3 := lt_of_block hR2
          have hK3 := ((hK2.setCell (a := ⟨p, 0, none⟩) HXp.out (.int .i64 m1')).setCell (a := ⟨p, 2, none⟩) HXp.out (.int .i64 ((k + q : Nat) : Int))).setCell (a := ⟨a, 0, none⟩) HXa.out (.int .i64 ((k + q : Nat) : Int))
          have hP3 : (((w2.setCell ⟨p, 0, none⟩ (.int .i64 m1')).setCell ⟨p, 2, none⟩ (.int .i64 ((k + q : Nat) : Int))).setCell ⟨a, 0, none⟩ (.int .i64 ((k + q : Nat) : Int))).heap[p]? = some (.cells #[.int .i64 m1', .int .i64 (k : Int), .int .i64 ((k + q : Nat) : Int), .bool sp, .bool fi] 64) := by
            rw [Below.heap_setCell _ _ _ _ (Ne.symm n4)]
            have h1 := Go.Joins.block_setCell (i := 0) hP2 (.int .i64 m1')
            have h2 := Go.Joins.block_setCell (i := 2) h1 (.int .i64 ((k + q : Nat) : Int))
            simpa using h2
          have hA3 : (((w2.setCell ⟨p, 0, none⟩ (.int .i64 m1')).setCell ⟨p, 2, none⟩ (.int .i64 ((k + q : Nat) : Int))).setCell ⟨a, 0, none⟩ (.int .i64 ((k + q : Nat) : Int))).heap[a]? = some (.cells #[.int .i64 ((k + q : Nat) : Int)] 3) := by
            have h1 : ((w2.setCell ⟨p, 0, none⟩ (.int .i64 m1')).setCell ⟨p, 2, none⟩ (.int .i64 ((k + q : Nat) : Int))).heap[a]? = some (.cells #[.int .i64 (k : Int)] 3) := by
              rw [Below.heap_setCell _ _ _ _ n4, Below.heap_setCell _ _ _ _ n4]; exact hA2
            simpa using Go.Joins.block_setCell (i := 0) h1 (.int .i64 ((k + q : Nat) : Int))
          have hR3 : (((w2.setCell ⟨p, 0, none⟩ (.int .i64 m1')).setCell ⟨p, 2, none⟩ (.int .i64 ((k + q : Nat) : Int))).setCell ⟨a, 0, none⟩ (.int .i64 ((k + q : Nat) : Int))).heap[w.heap.size]? = some (.cells #[.int .i64 0, .int .i64 0, .int .i64 0, .bool false, .bool false] 64) := by
            rw [Below.heap_setCell _ _ _ _ (Ne.symm n1), Below.heap_setCell _ _ _ _ (Ne.symm n2), Below.heap_setCell _ _ _ _ (Ne.symm n2)]; exact hR2
          have HEnd := hid (end_res HST.out hK3 (by rw [HAE.out]; exact hA3) (by rw [HPE.out]; exact hP3) hR3 (.int .i64 m1') (.int .i64 (k : Int)) (.int .i64 ((k + q : Nat) : Int)) (.bool sp) (.bool fi))
          push_cast at HEnd
          clear hK3 hP3 hA3 hR3 hP2 hA2 hR2 hK2
          go_wp2
          refine bodyPost_ret (piece_ret rfl HEnd.out.2.2 _ rfl) rfl ⟨?_, ?_, HEnd.out.2.1⟩
          · rw [HL.out.1]; simp [pieceV]
          · rw [HL.out.2]; simp only [Int.toNat_natCast]; exact HEnd.out.1
      · have hkl : k < s.size := by omega
        have hkn : k + n ≤ s.size := by omega
        have hnp : 0 < n := by omega
        have hnb : ((n : Int) != 0) = true := by simp; omega
        have hnc : ((n : Int) == -1) = false := by simp
        have HFs : Hid (skip s.data.toList i false (i == 0) = skipF s.data.toList (f - 1) (k + n) true (fi || byteAt s.data.toList k == 10)) := HSk.out.trans (skipF_on _ f k n sp fi (by omega) HN'.out (by omega))
        rw [← byte_at s k hkl] at HFs
        have HD : Hid ((s.extract (k + n) s.size).data.toList = s.data.toList.drop (k + n)) := by show _ = _; rw [extract_data, ← size_data s, List.take_length]
        cases fi with
        | true =>
          have HNs := hid (HN.out.step HXa.out HXp.out n4 m1 m2 (k + n) true)
          have HMs := hid (HM.out.kept hgl HNs.out.kept)
          push_cast at HNs HMs
          clear hp5 hn0
          go_wp2_with fail
          refine (HBl.out _ _ HMs.out (by simp [ByteArray.size_extract]; omega)).mono ?_
          rintro e w1 ⟨rfl, hb1⟩
          have HN1 := hid (HNs.out.below hb1)
          rw [HD.out]
          clear hb1 HNs HMs
          go_wp2
          go_roundg (gk - n)
          case measure => omega
          case rel => exact ⟨k + n, f - 1, true, true, by omega, rfl, by omega, HFs.out, HN1.out⟩
        | false =>
          have HNs := hid (HN.out.step HXa.out HXp.out n4 m1 m2 (k + n) ((s[k].toNat : Int) == 10))
          have HMs := hid (HM.out.kept hgl HNs.out.kept)
          have HFs2 : Hid (skip s.data.toList i false (i == 0) = skipF s.data.toList (f - 1) (k + n) true ((s[k].toNat : Int) == 10)) := by
            show _ = _
            rw [HFs.out]
            congr 1
            rw [Bool.false_or]
            apply bool_ext
            simp only [beq_iff_eq, u8i]
            rfl
          push_cast at HNs HMs
          clear hp5 hn0 HFs
          go_wp2_with fail
          refine (HBl.out _ _ HMs.out (by simp [ByteArray.size_extract]; omega)).mono ?_
          rintro e w1 ⟨rfl, hb1⟩
          have HN1 := hid (HNs.out.below hb1)
          rw [HD.out]
          clear hb1 HNs HMs
          go_wp2
          go_roundg (gk - n)
          case measure => omega
          case rel => exact ⟨k + n, f - 1, true, _, by omega, rfl, by omega, HFs2.out, HN1.out⟩
end
section
open Go.RowKit Go.Shelf

def encT (t : Tk) : List Value :=
  [.int .i64 t.kind, .string t.text, .bool t.space, .bool t.first, .int .i64 t.file, .int .i64 t.lo, .int .i64 t.hi, .int .i64 t.line, .slice none 0 0, .slice none 0 0, .int .i64 0]
def cellsT (ts : List Tk) : List Value := ts.flatMap encT
theorem encT_length (t : Tk) : (encT t).length = 11 := rfl
theorem cellsT_length (ts : List Tk) : (cellsT ts).length = ts.length * 11 := by
  induction ts with
  | nil => rfl
  | cons x r ih => simp only [cellsT, List.flatMap_cons, List.length_append] at ih ⊢; rw [ih, encT_length]; simp; omega
theorem cellsT_snoc (ts : List Tk) (x : Tk) : cellsT (ts ++ [x]) = cellsT ts ++ encT x := by simp [cellsT]
theorem cellsT_get (ts : List Tk) (j i : Nat) (x : Tk) (v : Value) (h : ts[j]? = some x) (hv : (encT x)[i]? = some v) : (cellsT ts)[j * 11 + i]? = some v := by
  have hi : i < 11 := by have := (List.getElem?_eq_some_iff.1 hv).1; rwa [encT_length] at this
  induction ts generalizing j with
  | nil => simp at h
  | cons y r ih =>
    cases j with
    | zero =>
      simp at h; subst h
      simp only [cellsT, List.flatMap_cons]
      rw [List.getElem?_append_left (by rw [encT_length]; omega)]
      simpa using hv
    | succ j =>
      have := ih j (by simpa using h)
      simp only [cellsT, List.flatMap_cons] at this ⊢
      rw [List.getElem?_append_right (by rw [encT_length]; omega)]
      have e1 : (j + 1) * 11 + i - (encT y).length = j * 11 + i := by rw [encT_length]; omega
      rw [e1]
      exact this

/-- What a slice of tokens holds. -/
def TAt (w : World) (a : Option Addr) (ts : List Tk) : Prop :=
  ts = [] ∨ ∃ b off, a = some ⟨b, off, none⟩ ∧ b < w.heap.size ∧ ∀ (j : Nat) x, ts[j]? = some x → ∀ (i : Nat) v, (encT x)[i]? = some v → w.cell? ⟨b, off + j * 11 + i, none⟩ = some v
theorem TAt.below {w w' : World} {a : Option Addr} {ts : List Tk} (h : TAt w a ts) (hb : Below w.heap.size w w') : TAt w' a ts := by
  rcases h with rfl | ⟨b, off, rfl, hlt, hc⟩
  · exact .inl rfl
  · exact .inr ⟨b, off, rfl, Nat.lt_of_lt_of_le hlt hb.size, fun j x hx i v hv => (hb.cell (p := ⟨b, _, none⟩) hlt).trans (hc j x hx i v hv)⟩
theorem TAt.of_row {w : World} {base : Nat} {v : Value} {ts : List Tk} (h : w.ownsRow base 35 11 v ts.length (cellsT ts)) : ∃ a c, v = .slice a ts.length c ∧ TAt w a ts := by
  rcases h.2 with ⟨rfl, h0⟩ | ⟨g, cap, cur, rfl, hb, hg, hn, hc, hs, ht⟩
  · exact ⟨none, 0, by rw [h0], .inl (List.eq_nil_of_length_eq_zero h0)⟩
  · refine ⟨_, _, rfl, .inr ⟨g, 0, rfl, (Array.getElem?_eq_some_iff.1 hg).1, fun j x hx i v hv => ?_⟩⟩
    have hj : j < ts.length := (List.getElem?_eq_some_iff.1 hx).1
    have hi : i < 11 := by have := (List.getElem?_eq_some_iff.1 hv).1; rwa [encT_length] at this
    have h1 := cellsT_get ts j i x v hx hv
    rw [← ht, List.getElem?_take_of_lt (by omega), Array.getElem?_toList] at h1
    rw [Go.Joins.cell_of_block hg, Nat.zero_add]
    exact h1

def isHash (t : Tk) : Bool := t.first && (t.text.toList == [35])
def isIncl (t : Tk) : Bool := !t.first && (t.text.toList == [105, 110, 99, 108, 117, 100, 101])
/-- Whether tokens end with a line's # and include. -/
def behindT (ts : List Tk) : Bool := decide (2 ≤ ts.length) && isHash (ts.getD (ts.length - 2) ⟨0, ⟨#[]⟩, false, false, 0, 0, 0, 0⟩) && isIncl (ts.getD (ts.length - 1) ⟨0, ⟨#[]⟩, false, false, 0, 0, 0, 0⟩)

set_option maxRecDepth 100000 in
set_option maxHeartbeats 2000000 in
theorem behindInclude_any (a : Option Addr) (c : Nat) (ts : List Tk) (w : World) (hT : TAt w a ts) (hl : ts.length ≤ 1048576) :
    Calls Tryd.prog 27 #[.slice a ts.length c] w fun e w' => e = .returned (.bool (behindT ts)) ∧ Below w.heap.size w w' := by
  by_cases h2 : 2 ≤ ts.length
  · obtain ⟨m, hm⟩ : ∃ m, ts.length = m + 2 := ⟨ts.length - 2, by omega⟩
    rcases hT with rfl | ⟨b, off, rfl, hb, hc⟩
    · simp at h2
    have hx0 : ts[m]? = some ts[m] := List.getElem?_eq_getElem (by omega)
    have hx1 : ts[m + 1]? = some ts[m + 1] := List.getElem?_eq_getElem (by omega)
    have hc0 := hc m _ hx0
    have hc1 := hc (m + 1) _ hx1
    have HE : Hid (behindT ts = (isHash ts[m] && isIncl ts[m + 1])) := by
      show _ = _
      unfold behindT
      rw [decide_eq_true h2, Bool.true_and, show ts.length - 2 = m by omega, show ts.length - 1 = m + 1 by omega]
      simp [List.getD, hx0, hx1]
    rw [hm] at hl ⊢
    generalize ts[m] = x at hc0 HE
    generalize ts[m + 1] = y at hc1 HE
    clear hc hx0 hx1 h2 hm
    obtain ⟨k0, t0, s0, f0, i0, l0, r0, n0⟩ := x
    obtain ⟨k1, t1, s1, f1, i1, l1, r1, n1⟩ := y
    have a0 := hc0 0 _ rfl
    have a1 := hc0 1 _ rfl
    have a2 := hc0 2 _ rfl
    have a3 := hc0 3 _ rfl
    have a4 := hc0 4 _ rfl
    have a5 := hc0 5 _ rfl
    have a6 := hc0 6 _ rfl
    have a7 := hc0 7 _ rfl
    have a8 := hc0 8 _ rfl
    have a9 := hc0 9 _ rfl
    have a10 := hc0 10 _ rfl
    have b0 := hc1 0 _ rfl
    have b1 := hc1 1 _ rfl
    have b2 := hc1 2 _ rfl
    have b3 := hc1 3 _ rfl
    have b4 := hc1 4 _ rfl
    have b5 := hc1 5 _ rfl
    have b6 := hc1 6 _ rfl
    have b7 := hc1 7 _ rfl
    have b8 := hc1 8 _ rfl
    have b9 := hc1 9 _ rfl
    have b10 := hc1 10 _ rfl
    simp only [Nat.add_zero] at a0 b0
    clear hc0 hc1
    push_cast
    have hm0 : (0 : Int) ≤ (m : Int) := by omega
    have hw0 : IntKind.i64.wrap ((m : Int) + 2 - 2) = (m : Int) := by rw [IntKind.wrap_i64]; omega
    have hw1 : IntKind.i64.wrap ((m : Int) + 2 - 1) = (m : Int) + 1 := by rw [IntKind.wrap_i64]; omega
    go_enter Tryd.func27, Tryd.ntmps27
    go_wp2_with fail
    go_region
    all_goals go_wp2
    all_goals go_ret
    all_goals (refine ⟨ret_bool ?_, by repeat' (first | exact Below.refl _ _ | apply Below.drew | apply Below.alloc | simp)⟩; rw [HE.out]; simp_all [isHash, isIncl])
  · have h3 : (ts.length : Int) < 2 := by omega
    have HE : Hid (behindT ts = false) := by show _ = _; unfold behindT; rw [decide_eq_false h2]; rfl
    clear h2 hT
    go_enter Tryd.func27, Tryd.ntmps27
    go_wp2
    go_ret
    exact ⟨ret_bool HE.out.symm, Below.refl _ _⟩

theorem Tokens1_any (O : Nat) (a : Option Addr) (c : Nat) (ts : List Tk) (w : World) (hO : w.cell? ⟨O, 0, none⟩ = some (.slice a ts.length c)) (hT : TAt w a ts) (hl : ts.length ≤ 1048576) :
    Calls Tryd.prog 26 #[.pointer (some ⟨O, 0, none⟩)] w fun e w' => e = .returned (.bool (behindT ts)) ∧ Below w.heap.size w w' := by
  have HB := hid (behindInclude_any a c ts w hT hl)
  clear hT
  go_enter Tryd.func26, Tryd.ntmps26
  go_wp2_with (go_at_call 27; refine HB.out.mono ?_; rintro e w1 ⟨rfl, hb1⟩)
  go_ret
  exact ⟨rfl, hb1⟩
end
end Go.Proofs.YtoedgcpfomgagaaDoor
