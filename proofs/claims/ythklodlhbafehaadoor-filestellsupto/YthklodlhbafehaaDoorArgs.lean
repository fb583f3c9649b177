/- What the arguments of the statements are in memory: files, edits, and how much they hold in all. -/
import Derived.Test.YthklodlhbafehaaDoorChange
import Derived.ProofKit
import Derived.OpenShut
import Derived.Deep.Slices
namespace Go.Proofs.YthklodlhbafehaaDoor
open Go.ChangeShapes Go.WideShapes Go.ChangeAt Go.RowKit

theorem own : ownKnob Tryd.prog.godebug = none := by kernel_rfl
theorem laidOut : laidOutB Tryd.prog = true := by kernel_rfl
theorem cellsSrc : Tryd.prog.cellsOf 33 = 2 := by kernel_rfl
theorem cellsEd : Tryd.prog.cellsOf 41 = 4 := by kernel_rfl
theorem cellsStr : Tryd.prog.cellsOf 9 = 1 := by kernel_rfl
theorem cellsInt : Tryd.prog.cellsOf 3 = 1 := by kernel_rfl

section
variable {H : Type} {enc : TypeId × Value → H} {W : World}

theorem bulk_range (len : Nat) (D : Nat → DataW H) (g : Nat → Nat) (h : ∀ i, i < len → g i ≤ Rows.uptoBulk (D i)) : ((List.range len).map g).sum ≤ Rows.uptoBulkAll ((List.range len).map D) := by
  induction len with
  | zero => simp
  | succ n ih =>
    have e : ∀ l r : List (DataW H), Rows.uptoBulkAll (l ++ r) = Rows.uptoBulkAll l + Rows.uptoBulkAll r := by
      intro l r
      induction l with
      | nil => simp [Rows.uptoBulkAll]
      | cons x l ih => simp only [List.cons_append, Rows.uptoBulkAll, ih]; omega
    rw [List.range_succ, List.map_append, List.map_append, e, List.sum_append]
    have h1 := ih (fun i hi => h i (by omega))
    have h2 := h n (by omega)
    simp only [List.map_cons, List.map_nil, List.sum_cons, List.sum_nil, Rows.uptoBulkAll]
    omega

def bulkS (x : Src) : Nat := x.1.size + x.2.size + 3
def bulkE (x : Ed) : Nat := x.text.size + 5

/-- A source in memory. -/
theorem open_src {fuel : Nat} {cs : List Value} {x : DataW H × List MemPlace} (h : DataW.trod enc Tryd.prog W 0 (fun _ => true) true fuel 33 cs = some x) :
    ∃ s : Src, cs = encS s ∧ s.1.size ≤ maxLen ∧ s.2.size ≤ maxLen ∧ bulkS s ≤ Rows.uptoBulk x.1 := by
  obtain ⟨y0, y1, n, rfl, hl, h0, h1⟩ := trod_struct2 Tryd.underlying33 h
  rw [cellsSrc] at hl
  dsimp only at h0 h1
  rw [cellsStr] at h0 h1
  obtain ⟨s0, e0, rfl, z0⟩ := DataW.trod_string Tryd.underlying9 h0
  obtain ⟨s1, e1, rfl, z1⟩ := DataW.trod_string Tryd.underlying9 h1
  match cs, hl with
  | [c0, c1], _ =>
    simp at e0 e1
    subst e0 e1
    refine ⟨(s0, s1), rfl, z0, z1, ?_⟩
    have h0 : s0.data.toList.length = s0.size := by simp
    have h1 : s1.data.toList.length = s1.size := by simp
    simp only [Rows.uptoBulk, Rows.uptoBulkAll, bulkS, h0, h1]
    omega

theorem open_ed {fuel : Nat} {cs : List Value} {x : DataW H × List MemPlace} (h : DataW.trod enc Tryd.prog W 0 (fun _ => true) true fuel 41 cs = some x) :
    ∃ s : Ed, cs = encE s ∧ bulkE s ≤ Rows.uptoBulk x.1 := by
  obtain ⟨y0, y1, y2, y3, n, rfl, hl, h0, h1, h2, h3⟩ := Go.Joins.trod_struct4 Tryd.underlying41 h
  rw [cellsEd] at hl
  dsimp only at h0 h1 h2 h3
  rw [cellsInt] at h0 h1 h2
  rw [cellsStr] at h3
  obtain ⟨n0, e0, rfl, _⟩ := DataW.trod_int Tryd.underlying3 h0
  obtain ⟨n1, e1, rfl, _⟩ := DataW.trod_int Tryd.underlying3 h1
  obtain ⟨n2, e2, rfl, _⟩ := DataW.trod_int Tryd.underlying3 h2
  obtain ⟨s3, e3, rfl, z3⟩ := DataW.trod_string Tryd.underlying9 h3
  match cs, hl with
  | [c0, c1, c2, c3], _ =>
    simp at e0 e1 e2 e3
    subst e0 e1 e2 e3
    refine ⟨(n0, n1, n2, s3), rfl, ?_⟩
    have h0 : s3.data.toList.length = s3.size := by simp
    simp only [Rows.uptoBulk, Rows.uptoBulkAll, bulkE, Ed.text, h0]
    omega

theorem add_spot {a : Addr} {v : Value} (h : W.cell? a = some v) : ∃ b off, a = ⟨b, off, none⟩ := by
  obtain ⟨b, off, spot⟩ := a
  have hspot : spot = none := World.cell?_spot h
  subst hspot
  exact ⟨b, off, rfl⟩

theorem sum_list {α : Type} (l : List α) (d : α) (g : α → Nat) : (l.map g).sum = ((List.range l.length).map fun i => g (l.getD i d)).sum := by
  rw [Go.Deep.map_by_index l d g]

set_option maxRecDepth 100000 in
/-- Files that came in. -/
theorem open_files {base : Nat} {v : Value} {d : DataW H} {p : List MemPlace} (hv : Value.okWide Tryd.prog W .any base 23 v) (h : DataW.Trod enc Tryd.prog W 0 (fun _ => true) true 23 v d p) :
    ∃ a cap fs, v = .slice a fs.length cap ∧ FAt W a fs ∧ (∀ x ∈ fs, x.1.size ≤ maxLen ∧ x.2.size ≤ maxLen) ∧ (fs.map bulkS).sum ≤ Rows.uptoBulk d := by
  obtain ⟨a0, len0, cap0, rfl⟩ := okWide_slice Tryd.underlying23 hv
  obtain ⟨fuel, hf⟩ := h
  rcases Go.Deep.open_slice Tryd.underlying23 hf with ⟨hcs, hx⟩ | ⟨a, len, cap, m, n, D, Pl, hcs, _, hlc, hcm, hm, hx, hel⟩
  · simp [Value.cells] at hcs
    obtain ⟨rfl, rfl, rfl⟩ := hcs
    exact ⟨none, 0, [], rfl, .inl rfl, fun x hx => (by cases hx), by simp⟩
  · simp [Value.cells] at hcs
    obtain ⟨rfl, rfl, rfl⟩ := hcs
    simp only [Prod.mk.injEq] at hx
    obtain ⟨rfl, rfl⟩ := hx
    simp only [if_true] at hm
    subst hm
    have each : ∀ i, i < len0 → ∃ s : Src, (W.cell? (a.add (i * 2)) = some (.string s.1) ∧ W.cell? ((a.add (i * 2)).add 1) = some (.string s.2)) ∧ (s.1.size ≤ maxLen ∧ s.2.size ≤ maxLen) ∧ bulkS s ≤ Rows.uptoBulk (D i) := by
      intro i hi
      obtain ⟨cs', hc', ht⟩ := hel i (by omega)
      rw [cellsSrc] at hc'
      obtain ⟨s, rfl, z0, z1, hbk⟩ := open_src ht
      have hcc := (World.cells?_some hc').2
      refine ⟨s, ⟨?_, ?_⟩, ⟨z0, z1⟩, hbk⟩
      · have := hcc.2 0 (by omega); simpa [encS, Addr.add] using this
      · have := hcc.2 1 (by omega); simpa [encS] using this
    obtain ⟨F, hF⟩ := Go.Deep.choose_lt each
    refine ⟨some a, m, (List.range len0).map F, by simp, ?_, ?_, ?_⟩
    · by_cases h0 : len0 = 0
      · subst h0; exact .inl (by simp)
      · obtain ⟨b, off, rfl⟩ := add_spot (by have := (hF 0 (by omega)).1.1; simpa [Addr.add] using this)
        have hb := World.block_lt_of_cell? _ _ (by have := (hF 0 (by omega)).1.1; simpa [Addr.add] using this)
        refine .inr ⟨b, off, rfl, hb, fun j x hx => ?_⟩
        have hj : j < len0 := by have := (List.getElem?_eq_some_iff.1 hx).1; simpa using this
        have hxe : x = F j := by simp [hj] at hx; exact hx.symm
        subst hxe
        have := (hF j hj).1
        simp only [Addr.add_lit] at this
        exact this
    · intro x hx
      obtain ⟨i, hi, rfl⟩ := List.mem_map.1 hx
      exact (hF i (List.mem_range.1 hi)).2.1
    · have := bulk_range len0 D (fun i => bulkS (F i)) (fun i hi => (hF i hi).2.2)
      rw [List.map_map]
      simp only [Rows.uptoBulk]
      have e : ((List.range len0).map (bulkS ∘ F)).sum = ((List.range len0).map fun i => bulkS (F i)).sum := rfl
      omega

set_option maxRecDepth 100000 in
/-- Edits that came in. -/
theorem open_edits {base : Nat} {v : Value} {d : DataW H} {p : List MemPlace} (hv : Value.okWide Tryd.prog W .any base 24 v) (h : DataW.Trod enc Tryd.prog W 0 (fun _ => true) true 24 v d p) :
    ∃ a cap es, v = .slice a es.length cap ∧ EAt W a es ∧ (es.map bulkE).sum ≤ Rows.uptoBulk d := by
  obtain ⟨a0, len0, cap0, rfl⟩ := okWide_slice Tryd.underlying24 hv
  obtain ⟨fuel, hf⟩ := h
  rcases Go.Deep.open_slice Tryd.underlying24 hf with ⟨hcs, hx⟩ | ⟨a, len, cap, m, n, D, Pl, hcs, _, hlc, hcm, hm, hx, hel⟩
  · simp [Value.cells] at hcs
    obtain ⟨rfl, rfl, rfl⟩ := hcs
    exact ⟨none, 0, [], rfl, .inl rfl, by simp⟩
  · simp [Value.cells] at hcs
    obtain ⟨rfl, rfl, rfl⟩ := hcs
    simp only [Prod.mk.injEq] at hx
    obtain ⟨rfl, rfl⟩ := hx
    simp only [if_true] at hm
    subst hm
    have each : ∀ i, i < len0 → ∃ s : Ed, (∀ j v, (encE s)[j]? = some v → W.cell? ((a.add (i * 4)).add j) = some v) ∧ bulkE s ≤ Rows.uptoBulk (D i) := by
      intro i hi
      obtain ⟨cs', hc', ht⟩ := hel i (by omega)
      rw [cellsEd] at hc'
      obtain ⟨s, rfl, hbk⟩ := open_ed ht
      have hcc := (World.cells?_some hc').2
      refine ⟨s, fun j v hv => ?_, hbk⟩
      have hj : j < 4 := by have := (List.getElem?_eq_some_iff.1 hv).1; simpa [encE] using this
      rw [hcc.2 j hj]; exact hv
    obtain ⟨F, hF⟩ := Go.Deep.choose_lt each
    refine ⟨some a, m, (List.range len0).map F, by simp, ?_, ?_⟩
    · by_cases h0 : len0 = 0
      · subst h0; exact .inl (by simp)
      · have h00 : W.cell? a = some (.int .i64 (F 0).file) := by have := (hF 0 (by omega)).1 0 _ rfl; simpa [Addr.add] using this
        obtain ⟨b, off, rfl⟩ := add_spot h00
        refine .inr ⟨b, off, rfl, World.block_lt_of_cell? _ _ h00, fun j x hx i v hv => ?_⟩
        have hj : j < len0 := by have := (List.getElem?_eq_some_iff.1 hx).1; simpa using this
        have hxe : x = F j := by simp [hj] at hx; exact hx.symm
        subst hxe
        have := (hF j hj).1 i v hv
        simp only [Addr.add_lit] at this
        exact this
    · have := bulk_range len0 D (fun i => bulkE (F i)) (fun i hi => (hF i hi).2)
      rw [List.map_map]
      simp only [Rows.uptoBulk]
      have e : ((List.range len0).map (bulkE ∘ F)).sum = ((List.range len0).map fun i => bulkE (F i)).sum := rfl
      omega

theorem sum_mem {α : Type} {l : List α} {g : α → Nat} {x : α} (h : x ∈ l) : g x ≤ (l.map g).sum := by
  induction l with
  | nil => cases h
  | cons y r ih =>
    simp only [List.map_cons, List.sum_cons]
    rcases List.mem_cons.1 h with rfl | h
    · omega
    · have := ih h; omega
theorem length_bulkS (fs : List Src) : fs.length * 3 ≤ (fs.map bulkS).sum := by
  induction fs with
  | nil => simp
  | cons x r ih => simp only [List.map_cons, List.sum_cons, List.length_cons, bulkS]; omega
theorem length_bulkE (es : List Ed) : es.length * 5 + total es ≤ (es.map bulkE).sum := by
  induction es with
  | nil => simp [total]
  | cons x r ih => simp only [List.map_cons, List.sum_cons, List.length_cons, bulkE, total] at ih ⊢; omega

end

end Go.Proofs.YthklodlhbafehaaDoor
