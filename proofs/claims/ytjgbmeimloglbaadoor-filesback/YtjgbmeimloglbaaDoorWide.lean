/- The arguments, with what the form's own reach says of their sizes. -/
import Derived.Test.YtjgbmeimloglbaaDoorArgs
import Derived.SizedLaws
namespace Go.Proofs.YtjgbmeimloglbaaDoor
open Go.ChangeShapes Go.WideShapes Go.ChangeAt Go.RowKit

section
variable {H : Type} {enc : TypeId × Value → H} {W : World}

theorem weightsAll_mem {P : Program} {e : TypeId} {d : DataW H} : ∀ {l : List (DataW H)}, d ∈ l → ∀ n ∈ d.weights P e, n ∈ DataW.weightsAll P e l
  | [], h, _, _ => by cases h
  | x :: r, h, n, hn => by
    simp only [DataW.weightsAll, List.mem_append]
    rcases List.mem_cons.1 h with rfl | h
    · exact .inl hn
    · exact .inr (weightsAll_mem h n hn)

theorem bytesSrc : Tryd.prog.bytesOf 33 = 32 := by kernel_rfl
theorem bytesEd : Tryd.prog.bytesOf 41 = 40 := by kernel_rfl

theorem src_w {fuel : Nat} {cs : List Value} {x : DataW H × List MemPlace} {R : Nat} (h : DataW.trod enc Tryd.prog W 0 (fun _ => true) true fuel 33 cs = some x) (hw : ∀ n ∈ x.1.weights Tryd.prog 33, n ≤ R) :
    ∃ s : Src, cs = encS s ∧ s.1.size ≤ R ∧ s.2.size ≤ R := by
  obtain ⟨y0, y1, n, rfl, hl, h0, h1⟩ := trod_struct2 Tryd.underlying33 h
  rw [cellsSrc] at hl
  dsimp only at h0 h1
  rw [cellsStr] at h0 h1
  obtain ⟨s0, e0, rfl, z0⟩ := DataW.trod_string Tryd.underlying9 h0
  obtain ⟨s1, e1, rfl, z1⟩ := DataW.trod_string Tryd.underlying9 h1
  match cs, hl with
  | [c0, c1], _ =>
    simp at e0 e1
    subst e0 e1
    have h0 : s0.data.toList.length = s0.size := by simp
    have h1 : s1.data.toList.length = s1.size := by simp
    simp only [DataW.weights, Tryd.underlying33, DataW.weightsEach, List.map_cons, List.map_nil, List.append_nil, h0, h1] at hw
    exact ⟨(s0, s1), rfl, hw _ (by simp), hw _ (by simp)⟩

theorem ed_w {fuel : Nat} {cs : List Value} {x : DataW H × List MemPlace} {R : Nat} (h : DataW.trod enc Tryd.prog W 0 (fun _ => true) true fuel 41 cs = some x) (hw : ∀ n ∈ x.1.weights Tryd.prog 41, n ≤ R) :
    ∃ s : Ed, cs = encE s ∧ s.text.size ≤ R := by
  obtain ⟨y0, y1, y2, y3, n, rfl, hl, h0, h1, h2, h3⟩ := Go.Joins.trod_struct4 Tryd.underlying41 h
  rw [cellsEd] at hl
  dsimp only at h0 h1 h2 h3
  rw [cellsInt] at h0 h1 h2
  rw [cellsStr] at h3
  obtain ⟨n0, e0, rfl, _⟩ := DataW.trod_int Tryd.underlying3 h0
  obtain ⟨n1, e1, rfl, _⟩ := DataW.trod_int Tryd.underlying3 h1
  obtain ⟨n2, e2, rfl, _⟩ := DataW.trod_int Tryd.underlying3 h2
  obtain ⟨s3, e3, rfl, z3⟩ := DataW.trod_string Tryd.underlying9 h3
  match cs, hl with
  | [c0, c1, c2, c3], _ =>
    simp at e0 e1 e2 e3
    subst e0 e1 e2 e3
    have h0 : s3.data.toList.length = s3.size := by simp
    simp only [DataW.weights, Tryd.underlying41, DataW.weightsEach, List.map_cons, List.map_nil, List.append_nil, h0] at hw
    exact ⟨(n0, n1, n2, s3), rfl, hw _ (by simp)⟩

set_option maxRecDepth 100000 in
/-- Files that came in. -/
theorem open_files_w {base : Nat} {v : Value} {d : DataW H} {p : List MemPlace} {R : Nat} (hw : ∀ n ∈ d.weights Tryd.prog 23, n ≤ R) (hv : Value.okWide Tryd.prog W .any base 23 v) (h : DataW.Trod enc Tryd.prog W 0 (fun _ => true) true 23 v d p) :
    ∃ a cap fs, v = .slice a fs.length cap ∧ FAt W a fs ∧ (∀ x ∈ fs, x.1.size ≤ R ∧ x.2.size ≤ R) ∧ fs.length * 32 ≤ R := by
  obtain ⟨a0, len0, cap0, rfl⟩ := okWide_slice Tryd.underlying23 hv
  obtain ⟨fuel, hf⟩ := h
  rcases Go.Deep.open_slice Tryd.underlying23 hf with ⟨hcs, hx⟩ | ⟨a, len, cap, m, n, D, Pl, hcs, _, hlc, hcm, hm, hx, hel⟩
  · simp [Value.cells] at hcs
    obtain ⟨rfl, rfl, rfl⟩ := hcs
    exact ⟨none, 0, [], rfl, .inl rfl, fun x hx => (by cases hx), by simp⟩
  · simp [Value.cells] at hcs
    obtain ⟨rfl, rfl, rfl⟩ := hcs
    simp only [Prod.mk.injEq] at hx
    obtain ⟨rfl, rfl⟩ := hx
    simp only [if_true] at hm
    subst hm
    simp only [DataW.weights, Tryd.underlying23, bytesSrc, List.length_map, List.length_range, List.mem_cons, List.mem_append] at hw
    have hw1 := hw _ (.inl rfl)
    have hw2 : ∀ i, i < len0 → ∀ n ∈ (D i).weights Tryd.prog 33, n ≤ R := fun i hi n hn => hw n (.inr (.inl (weightsAll_mem (List.mem_map.2 ⟨i, List.mem_range.2 hi, rfl⟩) n hn)))
    have each : ∀ i, i < len0 → ∃ s : Src, (W.cell? (a.add (i * 2)) = some (.string s.1) ∧ W.cell? ((a.add (i * 2)).add 1) = some (.string s.2)) ∧ (s.1.size ≤ R ∧ s.2.size ≤ R) := by
      intro i hi
      obtain ⟨cs', hc', ht⟩ := hel i (by omega)
      rw [cellsSrc] at hc'
      obtain ⟨s, rfl, z0, z1⟩ := src_w ht (fun n hn => hw2 i hi n hn)
      have hcc := (World.cells?_some hc').2
      refine ⟨s, ⟨?_, ?_⟩, ⟨z0, z1⟩⟩
      · have := hcc.2 0 (by omega); simpa [encS, Addr.add] using this
      · have := hcc.2 1 (by omega); simpa [encS] using this
    obtain ⟨F, hF⟩ := Go.Deep.choose_lt each
    refine ⟨some a, m, (List.range len0).map F, by simp, ?_, ?_, ?_⟩
    · by_cases h0 : len0 = 0
      · subst h0; exact .inl (by simp)
      · obtain ⟨b, off, rfl⟩ := add_spot (by have := (hF 0 (by omega)).1.1; simpa [Addr.add] using this)
        have hb := World.block_lt_of_cell? _ _ (by have := (hF 0 (by omega)).1.1; simpa [Addr.add] using this)
        refine .inr ⟨b, off, rfl, hb, fun j x hx => ?_⟩
        have hj : j < len0 := by have := (List.getElem?_eq_some_iff.1 hx).1; simpa using this
        have hxe : x = F j := by simp [hj] at hx; exact hx.symm
        subst hxe
        have := (hF j hj).1
        simp only [Addr.add_lit] at this
        exact this
    · intro x hx
      obtain ⟨i, hi, rfl⟩ := List.mem_map.1 hx
      exact (hF i (List.mem_range.1 hi)).2
    · simp only [List.length_map, List.length_range]; omega

set_option maxRecDepth 100000 in
/-- Edits that came in. -/
theorem open_edits_w {base : Nat} {v : Value} {d : DataW H} {p : List MemPlace} {R : Nat} (hw : ∀ n ∈ d.weights Tryd.prog 24, n ≤ R) (hv : Value.okWide Tryd.prog W .any base 24 v) (h : DataW.Trod enc Tryd.prog W 0 (fun _ => true) true 24 v d p) :
    ∃ a cap es, v = .slice a es.length cap ∧ EAt W a es ∧ (∀ x ∈ es, x.text.size ≤ R) ∧ es.length * 40 ≤ R := by
  obtain ⟨a0, len0, cap0, rfl⟩ := okWide_slice Tryd.underlying24 hv
  obtain ⟨fuel, hf⟩ := h
  rcases Go.Deep.open_slice Tryd.underlying24 hf with ⟨hcs, hx⟩ | ⟨a, len, cap, m, n, D, Pl, hcs, _, hlc, hcm, hm, hx, hel⟩
  · simp [Value.cells] at hcs
    obtain ⟨rfl, rfl, rfl⟩ := hcs
    exact ⟨none, 0, [], rfl, .inl rfl, fun x hx => (by cases hx), by simp⟩
  · simp [Value.cells] at hcs
    obtain ⟨rfl, rfl, rfl⟩ := hcs
    simp only [Prod.mk.injEq] at hx
    obtain ⟨rfl, rfl⟩ := hx
    simp only [if_true] at hm
    subst hm
    simp only [DataW.weights, Tryd.underlying24, bytesEd, List.length_map, List.length_range, List.mem_cons, List.mem_append] at hw
    have hw1 := hw _ (.inl rfl)
    have hw2 : ∀ i, i < len0 → ∀ n ∈ (D i).weights Tryd.prog 41, n ≤ R := fun i hi n hn => hw n (.inr (.inl (weightsAll_mem (List.mem_map.2 ⟨i, List.mem_range.2 hi, rfl⟩) n hn)))
    have each : ∀ i, i < len0 → ∃ s : Ed, (∀ j v, (encE s)[j]? = some v → W.cell? ((a.add (i * 4)).add j) = some v) ∧ s.text.size ≤ R := by
      intro i hi
      obtain ⟨cs', hc', ht⟩ := hel i (by omega)
      rw [cellsEd] at hc'
      obtain ⟨s, rfl, hbk⟩ := ed_w ht (fun n hn => hw2 i hi n hn)
      have hcc := (World.cells?_some hc').2
      refine ⟨s, fun j v hv => ?_, hbk⟩
      have hj : j < 4 := by have := (List.getElem?_eq_some_iff.1 hv).1; simpa [encE] using this
      rw [hcc.2 j hj]; exact hv
    obtain ⟨F, hF⟩ := Go.Deep.choose_lt each
    refine ⟨some a, m, (List.range len0).map F, by simp, ?_, ?_, ?_⟩
    · by_cases h0 : len0 = 0
      · subst h0; exact .inl (by simp)
      · have h00 : W.cell? a = some (.int .i64 (F 0).file) := by have := (hF 0 (by omega)).1 0 _ rfl; simpa [Addr.add] using this
        obtain ⟨b, off, rfl⟩ := add_spot h00
        refine .inr ⟨b, off, rfl, World.block_lt_of_cell? _ _ h00, fun j x hx i v hv => ?_⟩
        have hj : j < len0 := by have := (List.getElem?_eq_some_iff.1 hx).1; simpa using this
        have hxe : x = F j := by simp [hj] at hx; exact hx.symm
        subst hxe
        have := (hF j hj).1 i v hv
        simp only [Addr.add_lit] at this
        exact this
    · intro x hx
      obtain ⟨i, hi, rfl⟩ := List.mem_map.1 hx
      exact (hF i (List.mem_range.1 hi)).2
    · simp only [List.length_map, List.length_range]; omega

end
end Go.Proofs.YtjgbmeimloglbaaDoor
