/- Walk of escaped, and plain facts of Quote. · Walk of Quote. · Walk of Paste, of a token that hides nothing. · Walk of numbered: token i, or one of no kind behind the last. · What Parse answers, plainly; walks of its small functions. -/
import Derived.Test.YtkfbhknhjpmomaaMcShelfB
import Derived.Test.YtkfbhknhjpmomaaLxBuild
import Derived.Test.YtkfbhknhjpmomaaLxC
import Derived.Test.YtkfbhknhjpmomaaLater
import Derived.Lib.Replace
import Derived.Test.YtkfbhknhjpmomaaMcA
import Derived.Test.YtkfbhknhjpmomaaLxTokens
import Derived.Test.YtkfbhknhjpmomaaTkAgg
namespace Go.Proofs.Ytkfbhknhjpmomaa
section
open Go.RowKit Go.Shelf

def repl (c : UInt8) (new l : List UInt8) : List UInt8 := l.flatMap fun b => if b == c then new else [b]
theorem index_cons (b c : UInt8) (l : List UInt8) : Lib.index (b :: l) [c] = if b == c then 0 else if Lib.index l [c] == -1 then -1 else Lib.index l [c] + 1 := by
  show (if [c].isPrefixOf (b :: l) then (0 : Int) else _) = _
  have e : [c].isPrefixOf (b :: l) = (b == c) := by
    simp only [List.isPrefixOf, Bool.and_true]
    exact BEq.comm
  rw [e]
theorem replaceK_one (c : UInt8) (new : List UInt8) : ∀ (l : List UInt8) (k : Nat), l.count c ≤ k → Lib.replaceK [c] new k l = repl c new l
  | [], 0, _ => rfl
  | [], k + 1, _ => rfl
  | b :: l, k, h => by
    by_cases hb : b = c
    · subst hb
      rw [List.count_cons_self] at h
      obtain ⟨k', rfl⟩ : ∃ k', k = k' + 1 := ⟨k - 1, by omega⟩
      have hi : Lib.index (b :: l) [b] = ((0 : Nat) : Int) := by rw [index_cons]; simp
      rw [Lib.replaceK_hit [b] new k' (b :: l) 0 hi]
      have := replaceK_one b new l k' (by omega)
      simp only [List.take_zero, List.nil_append, List.length_singleton, Nat.zero_add, List.drop_succ_cons, List.drop_zero]
      rw [this]
      unfold repl
      simp
    · have hbe : (b == c) = false := by simpa using hb
      rw [List.count_cons_of_ne hb] at h
      have ih := replaceK_one c new l k h
      have hr : repl c new (b :: l) = b :: repl c new l := by unfold repl; simp [hb]
      rw [hr, ← ih]
      cases k with
      | zero => rfl
      | succ k =>
        have hi := index_cons b c l
        rw [hbe] at hi
        simp only [Bool.false_eq_true, if_false] at hi
        by_cases hm : Lib.index l [c] = -1
        · rw [hm] at hi
          simp only [beq_self_eq_true, if_true] at hi
          unfold Lib.replaceK
          rw [hi, hm]
          simp
        · have hge := Lib.index_ge l [c]
          obtain ⟨i, hi2⟩ : ∃ i : Nat, Lib.index l [c] = (i : Int) := ⟨(Lib.index l [c]).toNat, by omega⟩
          rw [hi2] at hi
          have hine : ((i : Int) == -1) = false := by rw [beq_eq_false_iff_ne]; omega
          rw [hine] at hi
          simp only [Bool.false_eq_true, if_false] at hi
          rw [Lib.replaceK_hit [c] new k (b :: l) (i + 1) (by rw [hi]; push_cast; rfl), Lib.replaceK_hit [c] new k l i hi2]
          simp
theorem replaceAll_one (c : UInt8) (new l : List UInt8) (h : ([c] == new) = false) : Lib.replaceAll l [c] new = repl c new l := by
  unfold Lib.replaceAll Lib.replace
  rw [h]
  simp only [Bool.false_eq_true, if_false]
  unfold Lib.replaceNum
  rw [if_pos (.inl (by decide)), Lib.count_one]
  exact replaceK_one c new l _ (Nat.le_refl _)
/-- A \ ahead of each \ and each quote. -/
def escS (l : List UInt8) : List UInt8 := l.flatMap fun c => if c == 34 || c == 92 then [92, c] else [c]
theorem repl_repl (l : List UInt8) : repl 34 [92, 34] (repl 92 [92, 92] l) = escS l := by
  unfold repl escS
  rw [List.flatMap_assoc]
  congr 1
  funext b
  by_cases h1 : b = 92
  · subst h1; rfl
  · have e1 : (b == 92) = false := by simpa using h1
    by_cases h2 : b = 34
    · subst h2; rfl
    · have e2 : (b == 34) = false := by simpa using h2
      simp [h1, h2]
theorem repl_length (c : UInt8) (new : List UInt8) (h : new.length ≤ 2) : ∀ l : List UInt8, (repl c new l).length ≤ 2 * l.length
  | [] => by simp [repl]
  | b :: l => by
    have ih := repl_length c new h l
    have : repl c new (b :: l) = (if b == c then new else [b]) ++ repl c new l := by simp [repl]
    rw [this, List.length_append, List.length_cons]
    split
    · omega
    · simp; omega
theorem escS_length (l : List UInt8) : (escS l).length ≤ 4 * l.length := by
  rw [← repl_repl]
  have h1 := repl_length 92 [92, 92] (by decide) l
  have h2 := repl_length 34 [92, 34] (by decide) (repl 92 [92, 92] l)
  omega

/-- What a token adds. -/
def quoteAt (ts : List Tk) (k : Nat) : List UInt8 := match ts[k]? with
  | some t => (if decide (0 < k) && t.space then [32] else []) ++ (if t.kind = 4 ∨ t.kind = 3 then escS t.text.data.toList else t.text.data.toList)
  | none => []
def quoteN (ts : List Tk) (k : Nat) : List UInt8 := [34] ++ (List.range k).flatMap (quoteAt ts)
/-- The text of tokens as one. -/
def quoteL (ts : List Tk) : List UInt8 := quoteN ts ts.length ++ [34]
theorem quoteN_succ (ts : List Tk) (k : Nat) : quoteN ts (k + 1) = quoteN ts k ++ quoteAt ts k := by simp [quoteN, List.range_succ]
theorem quoteN_le (ts : List Tk) (M : Nat) (h : ∀ t ∈ ts, t.text.size ≤ M) : ∀ k, k ≤ ts.length → (quoteN ts k).length ≤ 1 + k * (4 * M + 1)
  | 0, _ => by simp [quoteN]
  | k + 1, hk => by
    have ih := quoteN_le ts M h k (by omega)
    have hx : ts[k]? = some ts[k] := List.getElem?_eq_getElem (by omega)
    have ht := h _ (List.getElem_mem (show k < ts.length by omega))
    have he := escS_length ts[k].text.data.toList
    rw [size_data] at he
    have hq : (quoteAt ts k).length ≤ 4 * M + 1 := by
      unfold quoteAt
      rw [hx]
      dsimp only
      rw [List.length_append]
      have h1 : (if decide (0 < k) && ts[k].space then [(32 : UInt8)] else []).length ≤ 1 := by split <;> simp
      have h2 : (if ts[k].kind = 4 ∨ ts[k].kind = 3 then escS ts[k].text.data.toList else ts[k].text.data.toList).length ≤ 4 * M := by
        split
        · omega
        · rw [size_data]; omega
      omega
    rw [quoteN_succ, List.length_append, Nat.add_mul]
    omega
end
section
open Go.RowKit Go.Shelf

theorem tok_block {W : World} {B : Nat} {v0 v1 v2 v3 v4 v5 v6 v7 v8 v9 v10 : Value} {T : TypeId} (h : W.heap[B]? = some (.cells #[v0, v1, v2, v3, v4, v5, v6, v7, v8, v9, v10] T)) :
    (W.cell? ⟨B, 0, none⟩ = some v0 ∧ W.cell? ⟨B, 1, none⟩ = some v1 ∧ W.cell? ⟨B, 2, none⟩ = some v2 ∧ W.cell? ⟨B, 3, none⟩ = some v3 ∧ W.cell? ⟨B, 4, none⟩ = some v4 ∧ W.cell? ⟨B, 5, none⟩ = some v5 ∧ W.cell? ⟨B, 6, none⟩ = some v6 ∧ W.cell? ⟨B, 7, none⟩ = some v7 ∧ W.cell? ⟨B, 8, none⟩ = some v8 ∧ W.cell? ⟨B, 9, none⟩ = some v9 ∧ W.cell? ⟨B, 10, none⟩ = some v10) ∧ (W.frozen? ⟨B, 0, none⟩ = false ∧ W.frozen? ⟨B, 1, none⟩ = false ∧ W.frozen? ⟨B, 2, none⟩ = false ∧ W.frozen? ⟨B, 3, none⟩ = false ∧ W.frozen? ⟨B, 4, none⟩ = false ∧ W.frozen? ⟨B, 5, none⟩ = false ∧ W.frozen? ⟨B, 6, none⟩ = false ∧ W.frozen? ⟨B, 7, none⟩ = false ∧ W.frozen? ⟨B, 8, none⟩ = false ∧ W.frozen? ⟨B, 9, none⟩ = false ∧ W.frozen? ⟨B, 10, none⟩ = false) := by
  simp [World.cell?, World.frozen?, h]
theorem put_tok {W : World} {A B : Nat} {T : TypeId} (hne : B ≠ A) {a0 a1 a10 u0 u1 u2 u3 u4 u5 u6 u7 u8 u9 u10 v0 v1 v2 v3 v4 v5 v6 v7 v8 v9 v10 : Value} (g : W.heap[B]? = some (.cells #[u0, u1, u2, u3, u4, u5, u6, u7, u8, u9, u10] T)) :
    ((((((((((((((W.setCell ⟨A, 0, none⟩ a0).setCell ⟨A, 1, none⟩ a1).setCell ⟨A, 10, none⟩ a10).setCell ⟨B, 0, none⟩ v0).setCell ⟨B, 1, none⟩ v1).setCell ⟨B, 2, none⟩ v2).setCell ⟨B, 3, none⟩ v3).setCell ⟨B, 4, none⟩ v4).setCell ⟨B, 5, none⟩ v5).setCell ⟨B, 6, none⟩ v6).setCell ⟨B, 7, none⟩ v7).setCell ⟨B, 8, none⟩ v8).setCell ⟨B, 9, none⟩ v9).setCell ⟨B, 10, none⟩ v10).heap[B]? = some (.cells #[v0, v1, v2, v3, v4, v5, v6, v7, v8, v9, v10] T) := by
  have g0 : ((((W.setCell ⟨A, 0, none⟩ a0).setCell ⟨A, 1, none⟩ a1).setCell ⟨A, 10, none⟩ a10)).heap[B]? = some (.cells #[u0, u1, u2, u3, u4, u5, u6, u7, u8, u9, u10] T) := by
    rw [Below.heap_setCell _ _ _ B hne, Below.heap_setCell _ _ _ B hne, Below.heap_setCell _ _ _ B hne]
    exact g
  have g1 := Go.Joins.block_setCell (i := 0) g0 v0
  have g2 := Go.Joins.block_setCell (i := 1) g1 v1
  have g3 := Go.Joins.block_setCell (i := 2) g2 v2
  have g4 := Go.Joins.block_setCell (i := 3) g3 v3
  have g5 := Go.Joins.block_setCell (i := 4) g4 v4
  have g6 := Go.Joins.block_setCell (i := 5) g5 v5
  have g7 := Go.Joins.block_setCell (i := 6) g6 v6
  have g8 := Go.Joins.block_setCell (i := 7) g7 v7
  have g9 := Go.Joins.block_setCell (i := 8) g8 v8
  have g10 := Go.Joins.block_setCell (i := 9) g9 v9
  have g11 := Go.Joins.block_setCell (i := 10) g10 v10
  simpa using g11
theorem put_below {w W : World} {A B H : Nat} (hA : H ≤ A) (hB : H ≤ B) {a0 a1 a10 v0 v1 v2 v3 v4 v5 v6 v7 v8 v9 v10 : Value} (h : Below H w W) : Below H w ((((((((((((((W.setCell ⟨A, 0, none⟩ a0).setCell ⟨A, 1, none⟩ a1).setCell ⟨A, 10, none⟩ a10).setCell ⟨B, 0, none⟩ v0).setCell ⟨B, 1, none⟩ v1).setCell ⟨B, 2, none⟩ v2).setCell ⟨B, 3, none⟩ v3).setCell ⟨B, 4, none⟩ v4).setCell ⟨B, 5, none⟩ v5).setCell ⟨B, 6, none⟩ v6).setCell ⟨B, 7, none⟩ v7).setCell ⟨B, 8, none⟩ v8).setCell ⟨B, 9, none⟩ v9).setCell ⟨B, 10, none⟩ v10) :=
  ((((((((((((((h).setCell (p := ⟨A, 0, none⟩) hA _).setCell (p := ⟨A, 1, none⟩) hA _).setCell (p := ⟨A, 10, none⟩) hA _).setCell (p := ⟨B, 0, none⟩) hB _).setCell (p := ⟨B, 1, none⟩) hB _).setCell (p := ⟨B, 2, none⟩) hB _).setCell (p := ⟨B, 3, none⟩) hB _).setCell (p := ⟨B, 4, none⟩) hB _).setCell (p := ⟨B, 5, none⟩) hB _).setCell (p := ⟨B, 6, none⟩) hB _).setCell (p := ⟨B, 7, none⟩) hB _).setCell (p := ⟨B, 8, none⟩) hB _).setCell (p := ⟨B, 9, none⟩) hB _).setCell (p := ⟨B, 10, none⟩) hB _
theorem size_of_below {B : Nat} {w w' : World} (h : Below B w w') (hB : B ≤ w.heap.size) : B ≤ w'.heap.size := by
  have := h.size
  omega
end
section
open Go.RowKit Go.Shelf

theorem put_one {W : World} {B : Nat} {T : TypeId} {u0 u1 u2 u3 u4 u5 u6 u7 u8 u9 u10 v0 v1 v2 v3 v4 v5 v6 v7 v8 v9 v10 : Value} (g0 : W.heap[B]? = some (.cells #[u0, u1, u2, u3, u4, u5, u6, u7, u8, u9, u10] T)) :
    (((((((((((W.setCell ⟨B, 0, none⟩ v0).setCell ⟨B, 1, none⟩ v1).setCell ⟨B, 2, none⟩ v2).setCell ⟨B, 3, none⟩ v3).setCell ⟨B, 4, none⟩ v4).setCell ⟨B, 5, none⟩ v5).setCell ⟨B, 6, none⟩ v6).setCell ⟨B, 7, none⟩ v7).setCell ⟨B, 8, none⟩ v8).setCell ⟨B, 9, none⟩ v9).setCell ⟨B, 10, none⟩ v10).heap[B]? = some (.cells #[v0, v1, v2, v3, v4, v5, v6, v7, v8, v9, v10] T) := by
  have g1 := Go.Joins.block_setCell (i := 0) g0 v0
  have g2 := Go.Joins.block_setCell (i := 1) g1 v1
  have g3 := Go.Joins.block_setCell (i := 2) g2 v2
  have g4 := Go.Joins.block_setCell (i := 3) g3 v3
  have g5 := Go.Joins.block_setCell (i := 4) g4 v4
  have g6 := Go.Joins.block_setCell (i := 5) g5 v5
  have g7 := Go.Joins.block_setCell (i := 6) g6 v6
  have g8 := Go.Joins.block_setCell (i := 7) g7 v7
  have g9 := Go.Joins.block_setCell (i := 8) g8 v8
  have g10 := Go.Joins.block_setCell (i := 9) g9 v9
  have g11 := Go.Joins.block_setCell (i := 10) g10 v10
  simpa using g11
theorem put_one_below {w W : World} {B H : Nat} (hB : H ≤ B) {v0 v1 v2 v3 v4 v5 v6 v7 v8 v9 v10 : Value} (h : Below H w W) : Below H w (((((((((((W.setCell ⟨B, 0, none⟩ v0).setCell ⟨B, 1, none⟩ v1).setCell ⟨B, 2, none⟩ v2).setCell ⟨B, 3, none⟩ v3).setCell ⟨B, 4, none⟩ v4).setCell ⟨B, 5, none⟩ v5).setCell ⟨B, 6, none⟩ v6).setCell ⟨B, 7, none⟩ v7).setCell ⟨B, 8, none⟩ v8).setCell ⟨B, 9, none⟩ v9).setCell ⟨B, 10, none⟩ v10) :=
  (((((((((((h).setCell (p := ⟨B, 0, none⟩) hB _).setCell (p := ⟨B, 1, none⟩) hB _).setCell (p := ⟨B, 2, none⟩) hB _).setCell (p := ⟨B, 3, none⟩) hB _).setCell (p := ⟨B, 4, none⟩) hB _).setCell (p := ⟨B, 5, none⟩) hB _).setCell (p := ⟨B, 6, none⟩) hB _).setCell (p := ⟨B, 7, none⟩) hB _).setCell (p := ⟨B, 8, none⟩) hB _).setCell (p := ⟨B, 9, none⟩) hB _).setCell (p := ⟨B, 10, none⟩) hB _
theorem put_four {W : World} {A B : Nat} {T : TypeId} (hne : B ≠ A) {a0 a1 a10 a8 u0 u1 u2 u3 u4 u5 u6 u7 u8 u9 u10 v0 v1 v2 v3 v4 v5 v6 v7 v8 v9 v10 : Value} (g : W.heap[B]? = some (.cells #[u0, u1, u2, u3, u4, u5, u6, u7, u8, u9, u10] T)) :
    (((((((((((((((W.setCell ⟨A, 0, none⟩ a0).setCell ⟨A, 1, none⟩ a1).setCell ⟨A, 10, none⟩ a10).setCell ⟨A, 8, none⟩ a8).setCell ⟨B, 0, none⟩ v0).setCell ⟨B, 1, none⟩ v1).setCell ⟨B, 2, none⟩ v2).setCell ⟨B, 3, none⟩ v3).setCell ⟨B, 4, none⟩ v4).setCell ⟨B, 5, none⟩ v5).setCell ⟨B, 6, none⟩ v6).setCell ⟨B, 7, none⟩ v7).setCell ⟨B, 8, none⟩ v8).setCell ⟨B, 9, none⟩ v9).setCell ⟨B, 10, none⟩ v10).heap[B]? = some (.cells #[v0, v1, v2, v3, v4, v5, v6, v7, v8, v9, v10] T) := by
  refine put_one ?_ (u0 := u0) (u1 := u1) (u2 := u2) (u3 := u3) (u4 := u4) (u5 := u5) (u6 := u6) (u7 := u7) (u8 := u8) (u9 := u9) (u10 := u10)
  rw [Below.heap_setCell _ _ _ B hne, Below.heap_setCell _ _ _ B hne, Below.heap_setCell _ _ _ B hne, Below.heap_setCell _ _ _ B hne]
  exact g
theorem put_four_below {w W : World} {A B H : Nat} (hA : H ≤ A) (hB : H ≤ B) {a0 a1 a10 a8 v0 v1 v2 v3 v4 v5 v6 v7 v8 v9 v10 : Value} (h : Below H w W) : Below H w (((((((((((((((W.setCell ⟨A, 0, none⟩ a0).setCell ⟨A, 1, none⟩ a1).setCell ⟨A, 10, none⟩ a10).setCell ⟨A, 8, none⟩ a8).setCell ⟨B, 0, none⟩ v0).setCell ⟨B, 1, none⟩ v1).setCell ⟨B, 2, none⟩ v2).setCell ⟨B, 3, none⟩ v3).setCell ⟨B, 4, none⟩ v4).setCell ⟨B, 5, none⟩ v5).setCell ⟨B, 6, none⟩ v6).setCell ⟨B, 7, none⟩ v7).setCell ⟨B, 8, none⟩ v8).setCell ⟨B, 9, none⟩ v9).setCell ⟨B, 10, none⟩ v10) :=
  put_one_below hB ((((h.setCell (p := ⟨A, 0, none⟩) hA _).setCell (p := ⟨A, 1, none⟩) hA _).setCell (p := ⟨A, 10, none⟩) hA _).setCell (p := ⟨A, 8, none⟩) hA _)
theorem three_blocks (w : World) (X Y Z : Obj) : (((w.alloc X).alloc Y).alloc Z).heap[w.heap.size]? = some X ∧ (((w.alloc X).alloc Y).alloc Z).heap[w.heap.size + 1]? = some Y ∧ (((w.alloc X).alloc Y).alloc Z).heap[w.heap.size + 1 + 1]? = some Z := by
  obtain ⟨h1, h2⟩ := two_blocks w X Y
  have hb : Below ((w.alloc X).alloc Y).heap.size ((w.alloc X).alloc Y) (((w.alloc X).alloc Y).alloc Z) := (Below.refl _ _).alloc (Nat.le_refl _) Z
  refine ⟨(hb.block _ (lt_of_block h1)).trans h1, (hb.block _ (lt_of_block h2)).trans h2, ?_⟩
  have := heap_alloc_new ((w.alloc X).alloc Y) Z
  simpa using this
/-- The one token that two texts are, if they are one. -/
def pasteT (l : List UInt8) : Option Tk := match (toksF 0 l).1 with
  | [t] => if t.text.data.toList == l then some t else none
  | _ => none
end
section
open Go.RowKit Go.Shelf

/-- What stands behind the last token. -/
def endTk (ts : List Tk) : Tk := match ts.getLast? with
  | some t => ⟨0, ⟨#[]⟩, false, false, t.file, t.hi, 0, 0⟩
  | none => ⟨0, ⟨#[]⟩, false, false, -1, 0, 0, 0⟩
def tokAt (ts : List Tk) (i : Nat) : Tk := ts.getD i (endTk ts)
theorem tokAt_in {ts : List Tk} {i : Nat} {x : Tk} (h : ts[i]? = some x) : tokAt ts i = x := by unfold tokAt; rw [List.getD, h]; rfl
theorem tokAt_out {ts : List Tk} {i : Nat} (h : ts.length ≤ i) : tokAt ts i = endTk ts := by unfold tokAt; rw [List.getD, List.getElem?_eq_none h]; rfl
/-- What the function that tells token i holds. -/
structure NumAt (w : World) (Bl Be : Nat) (a : Option Addr) (c : Nat) (ts : List Tk) : Prop where
  l : w.heap[Bl]? = some (.cells #[.slice a ts.length c] 22)
  e : w.heap[Be]? = some (.cells #[.int .i64 (endTk ts).kind, .string (endTk ts).text, .bool (endTk ts).space, .bool (endTk ts).first, .int .i64 (endTk ts).file, .int .i64 (endTk ts).lo, .int .i64 (endTk ts).hi, .int .i64 (endTk ts).line, .slice none 0 0, .slice none 0 0, .int .i64 0] 44)
  toks : TAt w a ts
theorem NumAt.below {w w' : World} {Bl Be : Nat} {a : Option Addr} {c : Nat} {ts : List Tk} (h : NumAt w Bl Be a c ts) (hb : Below w.heap.size w w') : NumAt w' Bl Be a c ts :=
  ⟨(hb.block _ (lt_of_block h.l)).trans h.l, (hb.block _ (lt_of_block h.e)).trans h.e, h.toks.below hb⟩
end
section
open Go.RowKit Go.Shelf

def dotsL : List UInt8 := [46, 46, 46]
def restL : List UInt8 := [95, 95, 86, 65, 95, 65, 82, 71, 83, 95, 95]
def restB : ByteArray := ⟨#[95, 95, 86, 65, 95, 65, 82, 71, 83, 95, 95]⟩
/-- Why a token can't be the next parameter. -/
def wrongP (ps : List ByteArray) (more : Bool) (t : Tk) : Int :=
  if more || (t.text.toList == restL) || (!(t.text.toList == dotsL) && !(t.kind == 1)) then 2
  else if Lib.containsS ps t.text then 7
  else if ps.length = 6 then 5
  else 0
/-- Parameters from token i on: those that there are, whether the last one takes all, the next token, what is wrong. -/
def parL (ts : List Tk) : Nat → Nat → List ByteArray → Bool → List ByteArray × Bool × Nat × Int
  | 0, i, ps, more => (ps, more, i, 0)
  | f + 1, i, ps, more =>
    if wrongP ps more (tokAt ts i) ≠ 0 then (ps, more, i, wrongP ps more (tokAt ts i))
    else if (tokAt ts (i + 1)).text.toList == [41] then (ps ++ [if (tokAt ts i).text.toList == dotsL then restB else (tokAt ts i).text], (tokAt ts i).text.toList == dotsL, i + 2, 0)
    else if (tokAt ts (i + 1)).text.toList == [44] then parL ts f (i + 2) (ps ++ [if (tokAt ts i).text.toList == dotsL then restB else (tokAt ts i).text]) ((tokAt ts i).text.toList == dotsL)
    else (ps ++ [if (tokAt ts i).text.toList == dotsL then restB else (tokAt ts i).text], (tokAt ts i).text.toList == dotsL, i + 1, 2)
end
end Go.Proofs.Ytkfbhknhjpmomaa
