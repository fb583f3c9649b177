/- Walk of the document's own Splice. -/
import Derived.Test.YtkfbhknhjpmomaaSpA
import Derived.Test.YtkfbhknhjpmomaaLater
namespace Go.Proofs.Ytkfbhknhjpmomaa
open Go.RowKit Go.Shelf

theorem kept_few (l : List UInt8) : (kept l).length ≤ l.length := (went_kept l).few
theorem kept_lt (l : List UInt8) (i : Nat) (h : i < (kept l).length) : (kept l)[i] < l.length := (went_kept l).rising.2 _ (List.getElem_mem h)
theorem kept_rises (l : List UInt8) (i j : Nat) (hij : i < j) (h : j < (kept l).length) : (kept l)[i] < (kept l)[j] :=
  List.pairwise_iff_getElem.1 (went_kept l).rising.1 i j (by omega) h hij

/-- The list that At holds. -/
def atL (l : List UInt8) : List Nat := kept l ++ [l.length]
theorem atL_length (l : List UInt8) : (atL l).length = (kept l).length + 1 := by simp [atL]
theorem atL_in (l : List UInt8) (i : Nat) (h : i < (kept l).length) : (atL l)[i]? = some (kept l)[i] := by
  simp [atL, List.getElem?_append_left h, h]
theorem atL_last (l : List UInt8) : (atL l)[(kept l).length]? = some l.length := by simp [atL]
def textB (s : ByteArray) : ByteArray := ⟨(bytesAt s.data.toList (kept s.data.toList)).toArray⟩
theorem textB_size (s : ByteArray) : (textB s).size = (kept s.data.toList).length := by
  show (bytesAt s.data.toList (kept s.data.toList)).toArray.size = _
  simp

/-- goneAt, told by the bytes of a text. -/
theorem goneAt_bytes (R : ByteArray) : goneAt R.data.toList 0 =
    if h : 1 < R.size then
      if (R[0].toNat : Int) = 92 ∧ (R[1].toNat : Int) = 10 then 2
      else if h2 : 2 < R.size then
        if (R[0].toNat : Int) = 92 ∧ (R[1].toNat : Int) = 13 ∧ (R[2].toNat : Int) = 10 then 3
        else if (R[0].toNat : Int) = 13 ∧ (R[1].toNat : Int) = 10 then 1 else 0
      else if (R[0].toNat : Int) = 13 ∧ (R[1].toNat : Int) = 10 then 1 else 0
    else 0 := by
  have H : ∀ (k : Nat) (h : k < R.size) (c : UInt8), R.data.toList[k]? = some c ↔ (R[k].toNat : Int) = c.toNat := by
    intro k h c
    rw [List.getElem?_eq_getElem (by rw [size_data]; exact h)]
    change some R[k] = some c ↔ _
    rw [Option.some.injEq, ← UInt8.toNat_inj]
    omega
  have N : ∀ (k : Nat) (h : ¬ k < R.size) (c : UInt8), ¬ R.data.toList[k]? = some c := by
    intro k h c hc
    have := (List.getElem?_eq_some_iff.1 hc).1
    rw [size_data] at this
    exact h this
  have e92 : (92 : UInt8).toNat = 92 := rfl
  have e13 : (13 : UInt8).toNat = 13 := rfl
  have e10 : (10 : UInt8).toNat = 10 := rfl
  unfold goneAt
  by_cases h : 1 < R.size
  · rw [dif_pos h]
    simp only [Nat.zero_add]
    have q1 := H 0 (by omega) 92
    have q2 := H 1 h 10
    have q3 := H 0 (by omega) 13
    have q4 := H 1 h 13
    rw [e92] at q1
    rw [e10] at q2
    rw [e13] at q3 q4
    by_cases h2 : 2 < R.size
    · have q5 := H 2 h2 10
      rw [e10] at q5
      simp only [q1, q2, q3, q4, q5, dif_pos h2]
      rfl
    · have q5 := N 2 h2 10
      simp only [q1, q2, q3, q4, q5, dif_neg h2, and_false, if_false]
      rfl
  · rw [dif_neg h]
    have h10 := N 1 h 10
    have h13 := N 1 h 13
    simp only [Nat.zero_add, h10, h13, and_false, false_and, if_false]

/-- What holds at a round's head. -/
structure RAt (l : List UInt8) (i : Nat) (ps : List Nat) (v : Value) (w0 wr : World) : Prop where
  went : Went l i ps
  old : Below w0.heap.size w0 wr
  box : wr.heap[w0.heap.size]? = some (.cells #[.string ⟨(bytesAt l ps).toArray⟩, v] 81)
  own : wr.ownsRow (w0.heap.size + 1) 3 1 v ps.length (cellsI ps)

theorem RAt.gone' {l : List UInt8} {i g : Nat} {ps : List Nat} {v : Value} {w0 wr : World} (h : RAt l i ps v w0 wr) (hg : goneAt l i = g) (h0 : g ≠ 0) : RAt l (i + g) ps v w0 wr := by
  subst hg
  exact ⟨h.went.gone h0, h.old, h.box, h.own⟩

theorem cat_one (s : ByteArray) (ps : List Nat) (i : Nat) (hi : i < s.size) : (⟨(bytesAt s.data.toList ps).toArray⟩ : ByteArray) ++ (s.extract i s.size).extract 0 1 = ⟨(bytesAt s.data.toList (ps ++ [i])).toArray⟩ := by
  have hc : s.data.toList[i]? = some s[i] := by rw [List.getElem?_eq_getElem (by rw [size_data]; exact hi)]; rfl
  apply ByteArray.ext
  apply Array.ext'
  rw [ByteArray.data_append, Array.toList_append, extract_data, extract_data, bytesAt_snoc _ _ _ _ hc, ← size_data s, List.take_length, List.drop_zero]
  congr 1
  rw [List.take_one, List.head?_drop, hc]
  rfl

/-- Behind the store of the longer text. -/
structure RMid (l : List UInt8) (i : Nat) (ps : List Nat) (v : Value) (w0 wr : World) : Prop where
  went : Went l (i + 1) (ps ++ [i])
  old : Below w0.heap.size w0 wr
  box : wr.heap[w0.heap.size]? = some (.cells #[.string ⟨(bytesAt l (ps ++ [i])).toArray⟩, v] 81)
  own : wr.ownsRow (w0.heap.size + 1) 3 1 v ps.length (cellsI ps)

theorem RAt.mid {l : List UInt8} {i : Nat} {ps : List Nat} {v : Value} {w0 wr : World} (h : RAt l i ps v w0 wr) (hi : i < l.length) (hg : goneAt l i = 0) : RMid l i ps v w0 (wr.setCell ⟨w0.heap.size, 0, none⟩ (.string ⟨(bytesAt l (ps ++ [i])).toArray⟩)) :=
  ⟨h.went.keep hi hg, h.old.setCell (p := ⟨w0.heap.size, 0, none⟩) (Nat.le_refl _) _, by have := Go.Joins.block_setCell (i := 0) h.box (.string ⟨(bytesAt l (ps ++ [i])).toArray⟩); simpa using this,
    ownsRow_setCell_below h.own (a := ⟨w0.heap.size, 0, none⟩) (by simp) _⟩

theorem RMid.drew {l : List UInt8} {i : Nat} {ps : List Nat} {v : Value} {w0 wr : World} (h : RMid l i ps v w0 wr) : RMid l i ps v w0 wr.drew := ⟨h.went, h.old.drew, h.box, h.own⟩

theorem RMid.next {l : List UInt8} {i : Nat} {ps : List Nat} {v v' : Value} {w0 wr w2 : World} {X : Obj} (h : RMid l i ps v w0 wr) (hg : (wr.alloc X).grownBy w2 v.ownBlock)
    (hown : w2.ownsRow (w0.heap.size + 1) 3 1 v' (ps.length + 1) (cellsI ps ++ [.int .i64 (i : Int)])) :
    w2.heap[w0.heap.size]? = some (.cells #[.string ⟨(bytesAt l (ps ++ [i])).toArray⟩, v] 81) ∧ RAt l (i + 1) (ps ++ [i]) v' w0 (w2.setCell ⟨w0.heap.size, 1, none⟩ v') := by
  have hlt := (Array.getElem?_eq_some_iff.1 h.box).1
  have hb2 : w2.heap[w0.heap.size]? = some (.cells #[.string ⟨(bytesAt l (ps ++ [i])).toArray⟩, v] 81) := by
    rw [hg.block w0.heap.size (by simp; omega) (fun e => by have := (h.own.lt _ e.symm).1; omega), Below.heap_alloc _ _ _ hlt]
    exact h.box
  refine ⟨hb2, h.went, ?_, ?_, ?_⟩
  · exact ((h.old.alloc h.old.size X).grown hg (by have := h.old.size; simp; omega) (fun j e => by have := (h.own.lt j e).1; omega)).setCell (p := ⟨w0.heap.size, 1, none⟩) (Nat.le_refl _) _
  · have := Go.Joins.block_setCell (i := 1) hb2 v'
    simpa using this
  · have := ownsRow_setCell_below hown (a := ⟨w0.heap.size, 1, none⟩) (by simp) v'
    rw [List.length_append]
    have e : cellsI (ps ++ [i]) = cellsI ps ++ [.int .i64 (i : Int)] := by simp [cellsI]
    rw [e]
    exact this

theorem box_facts {wr : World} {B : Nat} {x y : Value} {T : TypeId} (h : wr.heap[B]? = some (.cells #[x, y] T)) : wr.cell? ⟨B, 0, none⟩ = some x ∧ wr.cell? ⟨B, 1, none⟩ = some y ∧ wr.frozen? ⟨B, 0, none⟩ = false ∧ wr.frozen? ⟨B, 1, none⟩ = false := by
  simp [World.cell?, World.frozen?, h]

theorem RAt.gone {l : List UInt8} {i : Nat} {ps : List Nat} {v : Value} {w0 wr : World} (h : RAt l i ps v w0 wr) (hg : goneAt l i ≠ 0) : RAt l (i + goneAt l i) ps v w0 wr :=
  ⟨h.went.gone hg, h.old, h.box, h.own⟩

theorem ref_end {l : List UInt8} {m : Nat} {ps : List Nat} {v : Value} {w w0 wr w2 : World} {X : Obj} {g c : Nat} {y z : Value} (h : RAt l m ps v w0 wr) (hb : Below w.heap.size w w0) (hr : w0.heap[w.heap.size]? = some (.cells #[y, z] 81)) (hB : w.heap.size + 1 = w0.heap.size) (hg : (wr.alloc X).grownBy w2 v.ownBlock)
    (hown : w2.ownsRow (w0.heap.size + 1) 3 1 (.slice (some ⟨g, 0, none⟩) (ps.length + 1) c) (ps.length + 1) (cellsI ps ++ [.int .i64 (m : Int)])) :
    w2.heap[w0.heap.size]? = some (.cells #[.string ⟨(bytesAt l ps).toArray⟩, v] 81) ∧ w2.heap[w.heap.size]? = some (.cells #[y, z] 81) ∧
    ∀ x1 x2 x3, IAt (((w2.setCell ⟨w0.heap.size, 1, none⟩ x1).setCell ⟨w.heap.size, 0, none⟩ x2).setCell ⟨w.heap.size, 1, none⟩ x3) g (ps ++ [m]) ∧ Below w.heap.size w (((w2.setCell ⟨w0.heap.size, 1, none⟩ x1).setCell ⟨w.heap.size, 0, none⟩ x2).setCell ⟨w.heap.size, 1, none⟩ x3) := by
  have hlt := (Array.getElem?_eq_some_iff.1 h.box).1
  have hb2 : Below w0.heap.size w0 w2 := (h.old.alloc h.old.size X).grown hg (by have := h.old.size; simp; omega) (fun j e => by have := (h.own.lt j e).1; omega)
  refine ⟨?_, ?_, fun x1 x2 x3 => ?_⟩
  · rw [hg.block w0.heap.size (by simp; omega) (fun e => by have := (h.own.lt _ e.symm).1; omega), Below.heap_alloc _ _ _ hlt]
    exact h.box
  · exact (hb2.block w.heap.size (by omega)).trans hr
  · have h1 := ownsRow_setCell_below hown (a := ⟨w0.heap.size, 1, none⟩) (by simp) x1
    have h2 := ownsRow_setCell_below h1 (a := ⟨w.heap.size, 0, none⟩) (by show w.heap.size < _; omega) x2
    have h3 := ownsRow_setCell_below h2 (a := ⟨w.heap.size, 1, none⟩) (by show w.heap.size < _; omega) x3
    refine ⟨⟨(h3.lt g rfl).2, fun j hj => row_cell h3 j _ ?_⟩, ?_⟩
    · have : cellsI ps ++ [.int .i64 (m : Int)] = cellsI (ps ++ [m]) := by simp [cellsI]
      rw [this]
      simp only [cellsI, List.getElem?_map, List.getElem?_eq_getElem hj]
      rfl
    · exact (((hb.trans (hb2.mono (by omega))).setCell (p := ⟨w0.heap.size, 1, none⟩) (by show w.heap.size ≤ w0.heap.size; omega) x1).setCell (p := ⟨w.heap.size, 0, none⟩) (Nat.le_refl _) x2).setCell (p := ⟨w.heap.size, 1, none⟩) (Nat.le_refl _) x3

set_option maxRecDepth 100000 in
set_option maxHeartbeats 8000000 in
theorem RSplice_any (s : ByteArray) (w : World) (hs : s.size ≤ 1048576) :
    Calls Try.prog 27 #[.string s] w fun e w' => ∃ b c, e = .returned (.agg #[.string (textB s), .slice (some ⟨b, 0, none⟩) ((kept s.data.toList).length + 1) c]) ∧ IAt w' b (atL s.data.toList) ∧ Below w.heap.size w w' := by
  obtain ⟨j0, hj, hy0, hy1, hy2⟩ := info_parts info_int
  go_enter Try.func27, Try.ntmps27
  go_wp2_with fail
  generalize hw0 : w.alloc (Obj.cells #[Value.string { data := #[] }, Value.slice none 0 0] 81) = w0
  have hsz : w.heap.size + 1 = w0.heap.size := by rw [← hw0]; simp
  have HB := hid ((Below.refl w.heap.size w).alloc (Nat.le_refl _) (Obj.cells #[Value.string { data := #[] }, Value.slice none 0 0] 81))
  have hres : w0.heap[w.heap.size]? = some (.cells #[Value.string { data := #[] }, Value.slice none 0 0] 81) := by rw [← hw0]; exact heap_alloc_new w _
  rw [hw0] at HB
  have HS := hid hsz
  have HR := hid hres
  clear hres
  rw [hsz]
  clear hsz hw0
  go_loopw [4] (fun x wr => ∃ (i : Nat) (ps : List Nat) (v : Value), x = .int .i64 i ∧ Hid (RAt s.data.toList i ps v w0 wr)) (fun x _ => s.size - (intOf x).toNat)
  case atStart => exact ⟨0, [], _, rfl, ⟨.start, (Below.refl _ w0).alloc (Nat.le_refl _) _, heap_alloc_new w0 _, World.ownsRow_nil _ _ _ _⟩⟩
  case round =>
    obtain ⟨i, ps, v, rfl, HP⟩ := hrel
    have hle : i ≤ s.size := by rw [← size_data]; exact HP.out.went.le
    by_cases hlt : i < s.size
    · have HG := hid (goneAt_bytes (s.extract i s.size))
      have hRs : (s.extract i s.size).size = s.size - i := by rw [ByteArray.size_extract]; omega
      rw [extract_data, ← size_data s, List.take_length, goneAt_drop, size_data s] at HG
      obtain ⟨hx0, hx1, hf0, hf1⟩ := box_facts HP.out.box
      have hcat : ∀ W : World, (Op.stringOp .add ⟨(bytesAt s.data.toList ps).toArray⟩ ((s.extract i s.size).extract 0 1)).run Try.prog W = .ok (.string ⟨(bytesAt s.data.toList (ps ++ [i])).toArray⟩) W := fun W => by
        rw [run_string_add_sum W _ _ (by have := HP.out.went.few; rw [ByteArray.size_extract, hRs]; show (bytesAt s.data.toList ps).toArray.size + _ ≤ _; simp; omega), cat_one s ps i hlt]
      have HM := hid (fun hg => HP.out.mid (by rw [size_data]; exact hlt) hg)
      obtain ⟨av, nv, cv, rfl⟩ := row_slice HP.out.own
      go_wp2_with fail
      all_goals try (first
        | (refine ⟨⟨i + 2, ps, _, by go_num, HP.out.gone' ?_ (by decide)⟩, by simp [intOf]; omega⟩; rw [HG.out]; simp only [beq_iff_eq] at *; (repeat' split) <;> omega)
        | (refine ⟨⟨i + 3, ps, _, by go_num, HP.out.gone' ?_ (by decide)⟩, by simp [intOf]; omega⟩; rw [HG.out]; simp only [beq_iff_eq] at *; (repeat' split) <;> omega)
        | (refine ⟨⟨i + 1, ps, _, by go_num, HP.out.gone' ?_ (by decide)⟩, by simp [intOf]; omega⟩; rw [HG.out]; simp only [beq_iff_eq] at *; (repeat' split) <;> omega))
      all_goals (have hg0 : goneAt s.data.toList i = 0 := (by rw [HG.out]; (try simp only [beq_iff_eq] at *); (try simp only [beq_eq_false_iff_ne] at *); (repeat' split) <;> omega))
      all_goals (have HM1 := hid (HM.out hg0); clear HM hg0 HG)
      all_goals go_region
      all_goals (have HM2 := hid (RMid.drew HM1.out); generalize (wr.setCell ⟨w0.heap.size, 0, none⟩ (.string ⟨(bytesAt s.data.toList (ps ++ [i])).toArray⟩)).drew = w1 at HM2 ⊢; have hfew := HP.out.went.few; clear HM1 hx0 hx1 hf0 hf1 hcat HP; obtain ⟨hx0, hx1, hf0, hf1⟩ := box_facts HM2.out.box; have hown := HM2.out.own; have hold := (Array.getElem?_eq_some_iff.1 HM2.out.box).1)
      all_goals (go_wp2_with (at_builtin; refine wpList_append_own _ rfl _ _ 79 rfl (w0.heap.size + 1) 3 j0 _ 1 8 Try.underlying79 hj hy0 hy1 hy2 rfl (by decide) _ _ _ rfl (hown.alloc _) ⟨w1.heap.size, 0, none⟩ 1 1 [.int .i64 (i : Int)] rfl rfl (one_new w1 _ _) (by simp; rfl) (by unfold maxLen; omega) (by omega) (by simp; omega) ?_))
      all_goals (intro v' w2 hown2' hg2 _; have HN := hid (HM2.out.next hg2 hown2'); obtain ⟨av3, nv3, cv3, rfl⟩ := row_slice hown2'; clear hown2' hg2 HM2 hown hold hx0 hx1 hf0 hf1; obtain ⟨hx0, hx1, hf0, hf1⟩ := box_facts HN.out.1)
      all_goals go_wp2
      all_goals exact ⟨⟨i + 1, ps ++ [i], _, by go_num, HN.out.2⟩, by simp [intOf]; omega⟩
    · obtain rfl : i = s.size := by omega
      obtain ⟨hx0, hx1, hf0, hf1⟩ := box_facts HP.out.box
      have hown := HP.out.own
      have hfew := HP.out.went.few
      have hold := (Array.getElem?_eq_some_iff.1 HP.out.box).1
      obtain ⟨av, nv, cv, rfl⟩ := row_slice hown
      go_wp2_with (at_builtin; refine wpList_append_own _ rfl _ _ 79 rfl (w0.heap.size + 1) 3 j0 _ 1 8 Try.underlying79 hj hy0 hy1 hy2 rfl (by decide) _ _ _ rfl (hown.alloc _) ⟨wr.heap.size, 0, none⟩ 1 1 [.int .i64 (s.size : Int)] rfl rfl (one_new wr _ _) (by simp; rfl) (by unfold maxLen; omega) (by omega) (by simp; omega) ?_)
      intro v' w2 hown2' hg2 _
      obtain ⟨g3, c3, rfl⟩ := some_row hown2' (pos_row hown2')
      have HE := hid (ref_end HP.out HB.out HR.out HS.out hg2 hown2')
      have HK : ps = kept s.data.toList := Went.done (by rw [size_data]; exact HP.out.went)
      have HK := hid HK
      clear hown2' hg2 hown hold hx0 hx1 hf0 hf1 HP hfew hle hlt
      obtain ⟨hbx, hrs, _⟩ := HE.out
      obtain ⟨hx0, hx1, hf0, hf1⟩ := box_facts hbx
      obtain ⟨hr0, hr1, hq0, hq1⟩ := box_facts hrs
      have hne : w.heap.size ≠ w0.heap.size := by have := HS.out; omega
      have HRS := hid (fun x => (Below.heap_setCell w2 ⟨w0.heap.size, 1, none⟩ x w.heap.size hne).trans hrs)
      clear hbx hrs
      go_wp2_with fail
      refine bodyPost_ret (two_ret Try.results27 (HRS.out _) _ rfl) rfl ?_
      obtain ⟨hi1, hi2⟩ := HE.out.2.2 (.slice (some ⟨g3, 0, none⟩) ((kept s.data.toList).length + 1) c3) (.string ⟨(bytesAt s.data.toList (kept s.data.toList)).toArray⟩) (.slice (some ⟨g3, 0, none⟩) ((kept s.data.toList).length + 1) c3)
      refine ⟨g3, c3, rfl, ?_, hi2⟩
      have hk := HK.out
      rw [atL, size_data, ← hk]
      rw [← hk] at hi1
      exact hi1

end Go.Proofs.Ytkfbhknhjpmomaa
