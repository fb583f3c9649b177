/- Lines joined, as plain functions on bytes: which bytes stay, in order, and what holds of them. · Walks of HasPrefix and gone: what is left out at the beginning of a text. · Walk of Text: which bytes stay, and where they stood. · Walks of Where and Back. -/
import Derived.Test.YtkfbhknhjpmomaaRows
import Derived.WalkKit
import Derived.WalkSpells
import Derived.WalkLawsBesides
import Derived.Laws.MakeOwn
import Derived.Laws.IdiomStrings
import Derived.Deep.RegionHeld3
import Derived.Lib.SmallJoins
import Derived.Test.YtkfbhknhjpmomaaStepApp
import Derived.Shelf.SlGeneric
namespace Go.Proofs.Ytkfbhknhjpmomaa
section
open Go.RowKit

theorem hid {p : Prop} (h : p) : Hid p := h
theorem ret_bool {a b : Bool} (h : a = b) : Ending.returned (.bool a) = .returned (.bool b) := by rw [h]
theorem ret_int {a b : Int} (h : a = b) : Ending.returned (.int .i64 a) = .returned (.int .i64 b) := by rw [h]
theorem bool_ext {a b : Bool} (h : a = true ↔ b = true) : a = b := by cases a <;> cases b <;> simp_all

/-- How many bytes are left out at place i. -/
def goneAt (l : List UInt8) (i : Nat) : Nat :=
  if l[i]? = some 92 ∧ l[i + 1]? = some 10 then 2
  else if l[i]? = some 92 ∧ l[i + 1]? = some 13 ∧ l[i + 2]? = some 10 then 3
  else if l[i]? = some 13 ∧ l[i + 1]? = some 10 then 1
  else 0

theorem goneAt_drop (l : List UInt8) (i : Nat) : goneAt (l.drop i) 0 = goneAt l i := by
  simp [goneAt]

theorem goneAt_le (l : List UInt8) (i : Nat) (h : goneAt l i ≠ 0) : i + goneAt l i ≤ l.length := by
  have H : ∀ (k : Nat) (c : UInt8), l[k]? = some c → k < l.length := fun k c hk => (List.getElem?_eq_some_iff.1 hk).1
  unfold goneAt at *
  split at h
  · rename_i h1; rw [if_pos h1]; have := H _ _ h1.2; omega
  · split at h
    · rename_i h1 h2; rw [if_neg h1, if_pos h2]; have := H _ _ h2.2.2; omega
    · split at h
      · rename_i h1 h2 h3; rw [if_neg h1, if_neg h2, if_pos h3]; have := H _ _ h3.2; omega
      · exact absurd rfl h

/-- What a pass over l has done ahead of place i: the places that stay. -/
def Went (l : List UInt8) (i : Nat) (ps : List Nat) : Prop :=
  ∀ P : Nat → List Nat → Prop, P 0 [] → (∀ i ps, P i ps → goneAt l i ≠ 0 → P (i + goneAt l i) ps) →
    (∀ i ps, P i ps → i < l.length → goneAt l i = 0 → P (i + 1) (ps ++ [i])) → P i ps
theorem Went.start {l : List UInt8} : Went l 0 [] := fun _ h _ _ => h
theorem Went.gone {l : List UInt8} {i : Nat} {ps : List Nat} (h : Went l i ps) (hg : goneAt l i ≠ 0) : Went l (i + goneAt l i) ps :=
  fun P a b c => b i ps (h P a b c) hg
theorem Went.keep {l : List UInt8} {i : Nat} {ps : List Nat} (h : Went l i ps) (hi : i < l.length) (hg : goneAt l i = 0) : Went l (i + 1) (ps ++ [i]) :=
  fun P a b c => c i ps (h P a b c) hi hg
theorem Went.rounds {l : List UInt8} {motive : (i : Nat) → (ps : List Nat) → Went l i ps → Prop} (start : motive 0 [] .start)
    (gone : ∀ {i ps} (hw : Went l i ps) (hg : goneAt l i ≠ 0), motive i ps hw → motive (i + goneAt l i) ps (hw.gone hg))
    (keep : ∀ {i ps} (hw : Went l i ps) (hi : i < l.length) (hg : goneAt l i = 0), motive i ps hw → motive (i + 1) (ps ++ [i]) (hw.keep hi hg))
    {i : Nat} {ps : List Nat} (h : Went l i ps) : motive i ps h :=
  (h (fun i ps => ∃ hw : Went l i ps, motive i ps hw) ⟨_, start⟩ (fun _ _ h hg => ⟨_, gone h.1 hg h.2⟩) (fun _ _ h hi hg => ⟨_, keep h.1 hi hg h.2⟩)).2

/-- The places that stay, from place i, in at most so many steps. -/
def keptF (l : List UInt8) : Nat → Nat → List Nat
  | 0, _ => []
  | f + 1, i => if i < l.length then (if goneAt l i = 0 then i :: keptF l f (i + 1) else keptF l f (i + goneAt l i)) else []
def kept (l : List UInt8) : List Nat := keptF l l.length 0

theorem Went.le {l : List UInt8} {i : Nat} {ps : List Nat} (h : Went l i ps) : i ≤ l.length := by
  induction h using Went.rounds with
  | start => omega
  | gone _ hg ih => exact goneAt_le l _ hg
  | keep _ hi _ ih => omega

theorem Went.kept {l : List UInt8} {i : Nat} {ps : List Nat} (h : Went l i ps) : ∃ f, l.length ≤ i + f ∧ kept l = ps ++ keptF l f i := by
  induction h using Went.rounds with
  | start => exact ⟨l.length, by omega, rfl⟩
  | @gone i ps hw hg ih =>
    obtain ⟨f, hf, hk⟩ := ih
    have hi : i < l.length := by have := goneAt_le l i hg; have := Nat.pos_of_ne_zero hg; omega
    cases f with
    | zero => omega
    | succ f => exact ⟨f, by have := Nat.pos_of_ne_zero hg; omega, by rw [hk, keptF, if_pos hi, if_neg hg]⟩
  | @keep i ps hw hi hg ih =>
    obtain ⟨f, hf, hk⟩ := ih
    cases f with
    | zero => omega
    | succ f => exact ⟨f, by omega, by rw [hk, keptF, if_pos hi, if_pos hg]; simp⟩

/-- At the end the places that stay are those. -/
theorem Went.done {l : List UInt8} {ps : List Nat} (h : Went l l.length ps) : ps = Go.Proofs.Ytkfbhknhjpmomaa.kept l := by
  obtain ⟨f, hf, hk⟩ := h.kept
  rw [hk]
  cases f <;> simp [keptF]

theorem went_kept (l : List UInt8) : Went l l.length (kept l) := by
  have H : ∀ n i ps, l.length ≤ i + n → Went l i ps → ∃ ps, Went l l.length ps := by
    intro n
    induction n with
    | zero => intro i ps hn hw; have := hw.le; obtain rfl : i = l.length := by omega
              exact ⟨ps, hw⟩
    | succ n ih =>
      intro i ps hn hw
      by_cases hi : i < l.length
      · by_cases hg : goneAt l i = 0
        · exact ih _ _ (by omega) (hw.keep hi hg)
        · exact ih _ _ (by have := Nat.pos_of_ne_zero hg; omega) (hw.gone hg)
      · have := hw.le; obtain rfl : i = l.length := by omega
        exact ⟨ps, hw⟩
  obtain ⟨ps, h⟩ := H l.length 0 [] (by omega) .start
  rw [← h.done]; exact h

theorem Went.rising {l : List UInt8} {i : Nat} {ps : List Nat} (h : Went l i ps) : ps.Pairwise (· < ·) ∧ ∀ p ∈ ps, p < i := by
  induction h using Went.rounds with
  | start => exact ⟨List.Pairwise.nil, by simp⟩
  | gone _ hg ih => exact ⟨ih.1, fun p hp => by have := ih.2 p hp; omega⟩
  | keep _ hi hg ih =>
    refine ⟨?_, fun p hp => ?_⟩
    · rw [List.pairwise_append]
      exact ⟨ih.1, by simp, fun a ha b hb => by simp at hb; subst hb; exact ih.2 a ha⟩
    · simp at hp
      rcases hp with hp | rfl
      · have := ih.2 p hp; omega
      · omega

theorem Went.few {l : List UInt8} {i : Nat} {ps : List Nat} (h : Went l i ps) : ps.length ≤ i := by
  induction h using Went.rounds with
  | start => simp
  | gone _ hg ih => omega
  | keep _ hi hg ih => simp; omega

def bytesAt (l : List UInt8) (ps : List Nat) : List UInt8 := ps.map fun p => l.getD p 0

theorem bytesAt_snoc (l : List UInt8) (ps : List Nat) (i : Nat) (c : UInt8) (h : l[i]? = some c) : bytesAt l (ps ++ [i]) = bytesAt l ps ++ [c] := by
  simp [bytesAt, List.getD, h]
@[simp] theorem bytesAt_length (l : List UInt8) (ps : List Nat) : (bytesAt l ps).length = ps.length := by simp [bytesAt]
end
section
open Go.RowKit

theorem toList_data (s : ByteArray) : s.toList = s.data.toList := ByteArray.toList_eq s
theorem extract_data (s : ByteArray) (i j : Nat) : (s.extract i j).data.toList = (s.data.toList.take j).drop i := by
  simp [ByteArray.data_extract, Array.toList_extract, List.drop_take]
theorem size_data (s : ByteArray) : s.data.toList.length = s.size := by simp

theorem prefix_iff (p s : List UInt8) : p.isPrefixOf s = true ↔ s.take p.length = p := by
  rw [List.isPrefixOf_iff_prefix, List.prefix_iff_eq_take]
  exact ⟨fun h => h.symm, fun h => h.symm⟩

theorem pre2 (a b : UInt8) (l : List UInt8) : ([a, b].isPrefixOf l) = decide (l[0]? = some a ∧ l[1]? = some b) := by
  rcases l with _ | ⟨x, _ | ⟨y, r⟩⟩ <;> simp [List.isPrefixOf] <;> (try (rw [Bool.eq_iff_iff]; simp; constructor <;> (rintro ⟨h1, h2⟩; exact ⟨h1.symm, h2.symm⟩)))
theorem pre3 (a b c : UInt8) (l : List UInt8) : ([a, b, c].isPrefixOf l) = decide (l[0]? = some a ∧ l[1]? = some b ∧ l[2]? = some c) := by
  rcases l with _ | ⟨x, _ | ⟨y, _ | ⟨z, r⟩⟩⟩ <;> simp [List.isPrefixOf] <;> (try (rw [Bool.eq_iff_iff]; simp; constructor <;> (rintro ⟨h1, h2, h3⟩; exact ⟨h1.symm, h2.symm, h3.symm⟩)))

theorem goneAt_eq (l : List UInt8) : goneAt l 0 = if [92, 10].isPrefixOf l then 2 else if [92, 13, 10].isPrefixOf l then 3 else if [13, 10].isPrefixOf l then 1 else 0 := by
  simp only [goneAt, pre2, pre3, decide_eq_true_eq]

end
section
open Go.RowKit

theorem info_u8 : (Try.prog.info? 5).map (fun i => (i.zero, i.size, i.bytes)) = some (some (.int .u8 0), 1, 1) := by kernel_rfl
theorem info_int : (Try.prog.info? 3).map (fun i => (i.zero, i.size, i.bytes)) = some (some (.int .i64 0), 1, 8) := by kernel_rfl

def cellsB (l : List UInt8) : List Value := l.map fun b => .int .u8 (b.toNat : Int)
def cellsI (l : List Nat) : List Value := l.map fun (b : Nat) => Value.int .i64 (b : Int)

theorem row_kind {w : World} {B : Nat} {e : TypeId} {size : Nat} {v : Value} {n : Nat} {xs : List Value} (h : w.ownsRow B e size v n xs) : ∀ g, v.ownBlock = some g → ∃ c fz, w.heap[g]? = some (.cells c e fz) := by
  intro g hg
  rcases h.2 with ⟨rfl, _⟩ | ⟨g', cap, cur, rfl, _, hh, _⟩
  · simp [Value.ownBlock] at hg
  · simp [Value.ownBlock] at hg; subst hg; exact ⟨_, _, hh⟩
theorem row_apart {w : World} {B B' : Nat} {e e' : TypeId} {k k' : Nat} {v v' : Value} {n n' : Nat} {xs xs' : List Value} (hee : e ≠ e') (h : w.ownsRow B e k v n xs) (h' : w.ownsRow B' e' k' v' n' xs') : v.ownBlock = none ∨ v.ownBlock ≠ v'.ownBlock := by
  cases hv : v.ownBlock with
  | none => exact .inl rfl
  | some g =>
    refine .inr fun hv' => ?_
    obtain ⟨c, fz, hc⟩ := row_kind h g hv
    obtain ⟨c', fz', hc'⟩ := row_kind h' g hv'.symm
    rw [hc] at hc'
    injection hc' with hc'
    injection hc' with _ he
    exact hee he
theorem row_slice {w : World} {base : Nat} {e : TypeId} {size : Nat} {v : Value} {n : Nat} {xs : List Value} (h : w.ownsRow base e size v n xs) : ∃ a m c, v = .slice a m c := by
  rcases h.2 with ⟨rfl, _⟩ | ⟨g, cap, cur, rfl, _⟩
  · exact ⟨_, _, _, rfl⟩
  · exact ⟨_, _, _, rfl⟩

theorem some_row {w : World} {base : Nat} {e : TypeId} {size : Nat} {v : Value} {n : Nat} {xs : List Value} (h : w.ownsRow base e size v n xs) (hne : v.ownBlock ≠ none) : ∃ g c, v = .slice (some ⟨g, 0, none⟩) n c := by
  rcases h.2 with ⟨rfl, _⟩ | ⟨g, cap, cur, rfl, _⟩
  · exact absurd rfl hne
  · exact ⟨_, _, rfl⟩
theorem pos_row {w : World} {base : Nat} {e : TypeId} {size : Nat} {v : Value} {n : Nat} {xs : List Value} (h : w.ownsRow base e size v (n + 1) xs) : v.ownBlock ≠ none := by
  rcases h.2 with ⟨_, h0⟩ | ⟨g, cap, cur, rfl, _⟩
  · omega
  · simp [Value.ownBlock]
theorem row_cell {w : World} {base : Nat} {e : TypeId} {g n c : Nat} {xs : List Value} (h : w.ownsRow base e 1 (.slice (some ⟨g, 0, none⟩) n c) n xs) (j : Nat) (u : Value) (hu : xs[j]? = some u) : w.cell? ⟨g, j, none⟩ = some u := by
  obtain ⟨hl, h⟩ := h
  rcases h with ⟨hv, _⟩ | ⟨g', cap, cur, hv, _, hg, h1, h2, h3, h4⟩
  · cases hv
  · cases hv
    rw [← h4, List.getElem?_take] at hu
    split at hu
    · simpa [World.cell?, hg] using hu
    · cases hu
/-- What holds at a round's head: what stays of what is behind lies in two rows of the call's own. -/
structure PassAt (l : List UInt8) (i : Nat) (ps : List Nat) (v1 v2 : Value) (w1 wr : World) : Prop where
  went : Went l i ps
  old : Below w1.heap.size w1 wr
  own1 : wr.ownsRow w1.heap.size 5 1 v1 ps.length (cellsB (bytesAt l ps))
  ne1 : v1.ownBlock ≠ none
  own2 : wr.ownsRow w1.heap.size 3 1 v2 ps.length (cellsI ps)

theorem one_new (w : World) (v : Value) (T : TypeId) : ∀ j x, [v][j]? = some x → (w.alloc (.cells #[v] T)).cell? ((⟨w.heap.size, 0, none⟩ : Addr).add j) = some x := by
  intro j x hx
  rw [Addr.add_lit, Nat.zero_add, World.cell?_alloc_mark]
  match j, hx with
  | 0, hx => simpa using hx

theorem PassAt.gone {l : List UInt8} {i : Nat} {ps : List Nat} {v1 v2 : Value} {w1 wr : World} (h : PassAt l i ps v1 v2 w1 wr) (hg : goneAt l i ≠ 0) : PassAt l (i + goneAt l i) ps v1 v2 w1 wr :=
  ⟨h.went.gone hg, h.old, h.own1, h.ne1, h.own2⟩

/-- Behind the first append of a round. -/
structure MidAt (l : List UInt8) (i : Nat) (ps : List Nat) (v1 v2 : Value) (w1 wr : World) : Prop where
  went : Went l (i + 1) (ps ++ [i])
  old : Below w1.heap.size w1 wr
  own1 : wr.ownsRow w1.heap.size 5 1 v1 (ps.length + 1) (cellsB (bytesAt l (ps ++ [i])))
  ne1 : v1.ownBlock ≠ none
  own2 : wr.ownsRow w1.heap.size 3 1 v2 ps.length (cellsI ps)

theorem PassAt.mid {l : List UInt8} {i : Nat} {ps : List Nat} {v1 v2 v' : Value} {w1 wr w2 : World} {X : Obj} {c : UInt8} (h : PassAt l i ps v1 v2 w1 wr) (hi : i < l.length) (hg0 : goneAt l i = 0) (hc : l[i]? = some c)
    (hown : w2.ownsRow w1.heap.size 5 1 v' (ps.length + 1) (cellsB (bytesAt l ps) ++ [.int .u8 (c.toNat : Int)])) (hg : (wr.alloc X).grownBy w2 v1.ownBlock) : MidAt l i ps v' v2 w1 w2 := by
  refine ⟨h.went.keep hi hg0, (h.old.alloc h.old.size X).grown hg (by have := h.old.size; simp; omega) (fun j e => (h.own1.lt j e).1), ?_, pos_row hown, ?_⟩
  · rw [bytesAt_snoc l ps i c hc, cellsB, List.map_append]; exact hown
  · exact (h.own2.alloc X).kept hg (row_apart (by decide) h.own2 h.own1)

theorem MidAt.next {l : List UInt8} {i : Nat} {ps : List Nat} {v1 v2 v' : Value} {w1 wr w2 : World} {X : Obj} (h : MidAt l i ps v1 v2 w1 wr)
    (hown : w2.ownsRow w1.heap.size 3 1 v' (ps.length + 1) (cellsI ps ++ [.int .i64 (i : Int)])) (hg : (wr.alloc X).grownBy w2 v2.ownBlock) : PassAt l (i + 1) (ps ++ [i]) v1 v' w1 w2 := by
  refine ⟨h.went, (h.old.alloc h.old.size X).grown hg (by have := h.old.size; simp; omega) (fun j e => (h.own2.lt j e).1), ?_, h.ne1, ?_⟩
  · rw [List.length_append]; exact (h.own1.alloc X).kept hg (row_apart (by decide) h.own1 h.own2)
  · rw [List.length_append, cellsI, List.map_append]; exact hown

/-- What a slice of numbers holds. -/
def IAt (w : World) (b : Nat) (l : List Nat) : Prop := b < w.heap.size ∧ ∀ (j : Nat) (h : j < l.length), w.cell? ⟨b, j, none⟩ = some (.int .i64 (l[j] : Int))

theorem undrew {w w2 : World} {r : Option Nat} (h : w.drew.grownBy w2 r) : w.grownBy w2 r := ⟨h.os, h.tape, h.output, h.size, h.block⟩

/-- The result's own block, as it was laid, behind the rounds and the last append. -/
theorem resAt {w1 wr w2 : World} {B : Nat} {a b : Value} {T : TypeId} {X : Obj} {size n : Nat} {e : TypeId} {v : Value} {xs : List Value} (h : w1.heap[B]? = some (.cells #[a, b] T)) (hb : Below w1.heap.size w1 wr) (hg : (wr.alloc X).grownBy w2 v.ownBlock) (hB : B + 1 = w1.heap.size)
    (hown : wr.ownsRow w1.heap.size e size v n xs) : w2.cell? ⟨B, 0, none⟩ = some a ∧ w2.cell? ⟨B, 1, none⟩ = some b ∧ w2.frozen? ⟨B, 0, none⟩ = false ∧ w2.frozen? ⟨B, 1, none⟩ = false ∧ w2.heap[B]? = some (.cells #[a, b] T) := by
  have hb2 : Below w1.heap.size w1 w2 := (hb.alloc hb.size X).grown hg (by have := hb.size; simp; omega) (fun j e => (hown.lt j e).1)
  have h2 : w2.heap[B]? = some (.cells #[a, b] T) := (hb2.block B (by omega)).trans h
  simp [World.cell?, World.frozen?, h2]

theorem text_end {l : List UInt8} {m : Nat} {ps : List Nat} {v1 v2 : Value} {w w1 wr w2 : World} {X : Obj} {g c : Nat} (h : PassAt l m ps v1 v2 w1 wr) (hb : Below w.heap.size w w1) (hB : w.heap.size + 1 = w1.heap.size) (hg : (wr.alloc X).grownBy w2 v2.ownBlock)
    (hown : w2.ownsRow w1.heap.size 3 1 (.slice (some ⟨g, 0, none⟩) (ps.length + 1) c) (ps.length + 1) (cellsI ps ++ [.int .i64 (m : Int)])) (x y : Value) :
    IAt ((w2.setCell ⟨w.heap.size, 0, none⟩ x).setCell ⟨w.heap.size, 1, none⟩ y) g (ps ++ [m]) ∧ Below w.heap.size w ((w2.setCell ⟨w.heap.size, 0, none⟩ x).setCell ⟨w.heap.size, 1, none⟩ y) := by
  have hb2 : Below w1.heap.size w1 w2 := (h.old.alloc h.old.size X).grown hg (by have := h.old.size; simp; omega) (fun j e => (h.own2.lt j e).1)
  have hown' := ownsRow_setCell_below (ownsRow_setCell_below hown (a := ⟨w.heap.size, 0, none⟩) (by rw [← hB]; simp) x) (a := ⟨w.heap.size, 1, none⟩) (by rw [← hB]; simp) y
  refine ⟨⟨(hown'.lt g rfl).2, fun j hj => row_cell hown' j _ ?_⟩, ((hb.trans (hb2.mono (by omega))).setCell (Nat.le_refl _) x).setCell (Nat.le_refl _) y⟩
  have : cellsI ps ++ [.int .i64 (m : Int)] = cellsI (ps ++ [m]) := by simp [cellsI]
  rw [this]
  simp only [cellsI, List.getElem?_map, List.getElem?_eq_getElem hj]
  rfl

/-- What is returned out of the result's own block. -/
theorem two_ret {f : Func} (hr : f.results = #[.cell 2 81]) {wr : World} {g : Nat} {x y u0 u1 : Value} (hR : wr.heap[g]? = some (.cells #[u0, u1] 81 (0, 0))) (tmps : Array Value) (hp : tmps.getD 2 undef = .pointer (some ⟨g, 0, none⟩)) :
    (results f tmps).run Try.prog ((wr.setCell ⟨g, 0, none⟩ x).setCell ⟨g, 1, none⟩ y) = .ok (.agg #[x, y]) ((wr.setCell ⟨g, 0, none⟩ x).setCell ⟨g, 1, none⟩ y) := by
  have h1 := Go.Joins.block_setCell (i := 0) hR x
  have h2 := Go.Joins.block_setCell (i := 1) h1 y
  refine results_cell_row hr tmps _ g 81 #[x, y] (0, 0) _ hp (by simpa using h2) Try.underlying81 rfl (by kernel_rfl)

end
section
open Go.RowKit Go.Shelf

theorem IAt.below {w w' : World} {b : Nat} {l : List Nat} (h : IAt w b l) (hb : Below w.heap.size w w') : IAt w' b l :=
  ⟨Nat.lt_of_lt_of_le h.1 hb.size, fun j hj => (hb.cell (p := ⟨b, j, none⟩) h.1).trans (h.2 j hj)⟩

def whereI (l : List Nat) (k : Int) : Int := if 0 ≤ k ∧ k < l.length then ((l.getD k.toNat 0 : Nat) : Int) else -1
theorem whereI_out (l : List Nat) (k : Int) (h : k < 0 ∨ (l.length : Int) ≤ k) : -1 = whereI l k := by
  unfold whereI; rw [if_neg (by omega)]
theorem whereI_in (l : List Nat) (j : Nat) (h : j < l.length) : ((l[j] : Nat) : Int) = whereI l j := by
  unfold whereI; rw [if_pos (by omega)]; simp [List.getD, h]

end
end Go.Proofs.Ytkfbhknhjpmomaa
