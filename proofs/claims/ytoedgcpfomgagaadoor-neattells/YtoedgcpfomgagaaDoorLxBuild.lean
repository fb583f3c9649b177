/- Walks of a builder's writing: a call of WriteString lays a text behind what the builder holds, and leaves all else that lay in memory as it was. -/
import Derived.Test.YtoedgcpfomgagaaDoorLxShelfB
import Derived.Test.YtoedgcpfomgagaaDoorSpA
namespace Go.Proofs.YtoedgcpfomgagaaDoor
open Go.RowKit Go.Shelf

theorem sizeBuilder : (Tryd.prog.info? 39).map (·.size) = some 2 := by kernel_rfl

set_option maxHeartbeats 1000000 in
set_option maxRecDepth 100000 in
theorem copyCheck_used (b : Nat) (w : World) (h0 : w.cell? ⟨b, 0, none⟩ = some (.pointer (some ⟨b, 0, none⟩))) :
    Calls Tryd.prog 30 #[.pointer (some ⟨b, 0, none⟩)] w fun e w' => e = .returned (.tuple #[]) ∧ w' = w := by
  obtain ⟨j, hj, _⟩ := Option.map_eq_some_iff.1 sizeBuilder
  have hq := Lib.run_neq_ptr_same (P := Tryd.prog) w ⟨b, 0, none⟩ Tryd.underlying36 hj
  go_enter Tryd.func30, Tryd.ntmps30
  go_wp2
  go_end0
  exact ⟨rfl, rfl⟩

set_option maxHeartbeats 1000000 in
set_option maxRecDepth 100000 in
theorem copyCheck_fresh (b : Nat) (w : World) (h0 : w.cell? ⟨b, 0, none⟩ = some (.pointer none)) (hsh : w.shape? b = some (39, 2)) (hfz : w.frozen? ⟨b, 0, none⟩ = false) :
    Calls Tryd.prog 30 #[.pointer (some ⟨b, 0, none⟩)] w fun e w' => e = .returned (.tuple #[]) ∧ w' = w.setCell ⟨b, 0, none⟩ (.pointer (some ⟨b, 0, none⟩)) := by
  obtain ⟨j, hj, hjs⟩ := Option.map_eq_some_iff.1 sizeBuilder
  have ht := Lib.run_to_unsafe (P := Tryd.prog) w ⟨b, 0, none⟩ Tryd.underlying36 Tryd.underlying80 hj (by rw [hjs]; decide) hsh (Nat.zero_lt_succ 1)
  have hf := Lib.run_from_unsafe (P := Tryd.prog) w ⟨b, 0, none⟩ Tryd.underlying80 Tryd.underlying36 hj hsh (by kernel_rfl)
  go_enter Tryd.func30, Tryd.ntmps30
  go_wp2
  rw [run_callFunc_extern Tryd.func48 (by kernel_rfl) (by kernel_rfl) (by kernel_rfl) (e := Extern.AbiNoEscape.same) (by kernel_rfl)]
  rw [Lib.run_noEscape]
  simp only [Result.andThen]
  rw [Oper.upon_value]
  go_wp2
  go_end0
  exact ⟨rfl, rfl⟩

theorem copyCheck_any (B b : Nat) (bs : List Value) (w : World) (h : Lib.IsBuilder 39 5 B b bs w) :
    Calls Tryd.prog 30 #[.pointer (some ⟨b, 0, none⟩)] w fun e w' => e = .returned (.tuple #[]) ∧ (Lib.BuilderAt 39 5 B b (.pointer (some ⟨b, 0, none⟩)) bs w' ∧ Below B w w' ∧ ∀ k, k ≠ b → w'.heap[k]? = w.heap[k]?) := by
  rcases h with h | h
  · refine (copyCheck_fresh b w h.cell0 h.shape h.frozen0).mono ?_
    rintro e w' ⟨rfl, rfl⟩
    exact ⟨rfl, h.used _, (Below.refl B w).setCell (p := ⟨b, 0, none⟩) h.1 _, fun k hk => Below.heap_setCell _ _ _ k hk⟩
  · refine (copyCheck_used b w h.cell0).mono ?_
    rintro e w' ⟨rfl, rfl⟩
    exact ⟨rfl, h, Below.refl B _, fun _ _ => rfl⟩

set_option maxHeartbeats 1000000 in
set_option maxRecDepth 100000 in
theorem WriteString_any (B b : Nat) (l : List UInt8) (s : ByteArray) (w : World) (h : Lib.IsBuilder 39 5 B b (Lib.byteCells l) w) (hlen : l.length + s.size ≤ 140737488355328) (hBw : B ≤ w.heap.size) :
    Calls Tryd.prog 12 #[.pointer (some ⟨b, 0, none⟩), .string s] w fun e w' => (∃ v, e = .returned v) ∧ Lib.IsBuilder 39 5 B b (Lib.byteCells (l ++ s.data.toList)) w' ∧ Below B w w' ∧
      (∀ k cs t fr, w.heap[k]? = some (.cells cs t fr) → t ≠ 5 → k ≠ b → w'.heap[k]? = some (.cells cs t fr)) := by
  obtain ⟨i0, hi, hz0, hz1, hz2⟩ := info_parts info_u8
  have hcc := copyCheck_any B b _ w h
  clear h
  go_enter Tryd.func12, Tryd.ntmps12
  go_wp2_with fail
  refine hcc.mono ?_
  rintro e w1 ⟨rfl, h1, hb1, hk1⟩
  obtain ⟨hB, v, hbk, hown, hne⟩ := h1
  have c0 : w1.cell? ⟨b, 0, none⟩ = some (.pointer (some ⟨b, 0, none⟩)) := by rw [Lib.cell_of_heap hbk]; rfl
  have c1 : w1.cell? ⟨b, 1, none⟩ = some v := by rw [Lib.cell_of_heap hbk]; rfl
  rw [Lib.byteCells_length] at hown
  go_wp2_with (at_builtin; refine Lib.wpList_append_own_string _ rfl _ _ 37 9 rfl B 5 i0 Tryd.underlying37 Tryd.underlying9 hi hz0 hz1 hz2 _ _ _ rfl hown s rfl ?c3 ?c4 ?c5 ?_)
  case c3 => unfold maxLen; omega
  case c4 => omega
  case c5 => have := hb1.size; omega
  intro v' w2 hown' hgrow _
  have hlt : b < w1.heap.size := (Array.getElem?_eq_some_iff.1 hbk).1
  have hbk2 : w2.heap[b]? = some (.cells #[.pointer (some ⟨b, 0, none⟩), v] 39 (0, 0)) := (hgrow.block b hlt (fun e => hne e.symm)).trans hbk
  have d1 : w2.cell? ⟨b, 1, none⟩ = some v := by rw [Lib.cell_of_heap hbk2]; rfl
  have f1 : w2.frozen? ⟨b, 1, none⟩ = false := Lib.frozen_of_heap hbk2 1
  obtain ⟨av, nv, cv, rfl⟩ : ∃ a n c, v' = .slice a n c := by
    rcases hown'.2 with ⟨rfl, _⟩ | ⟨g, cap, cur, rfl, _⟩
    · exact ⟨_, _, _, rfl⟩
    · exact ⟨_, _, _, rfl⟩
  have hb2 : Below B w w2 := hb1.grown hgrow (by have := hb1.size; omega) (fun k e => (hown.lt k e).1)
  have hbc : Lib.byteCells l ++ Lib.strCells s = Lib.byteCells (l ++ s.data.toList) := by simp [Lib.byteCells, Lib.strCells]
  rw [hbc] at hown'
  have hll : (Lib.byteCells (l ++ s.data.toList)).length = l.length + s.size := by rw [Lib.byteCells_length]; simp
  rw [← hll] at hown'
  have HP := hid (Lib.BuilderAt.put (p := .pointer (some ⟨b, 0, none⟩)) hB hbk2 hown' (by decide))
  have HK : Hid (∀ k cs t fr, w.heap[k]? = some (.cells cs t fr) → t ≠ 5 → k ≠ b → (w2.setCell ⟨b, 1, none⟩ (.slice av nv cv)).heap[k]? = some (.cells cs t fr)) := fun k cs t fr hc ht hkb => by
    have h1 := (hk1 k hkb).trans hc
    refine (Below.heap_setCell w2 _ _ k hkb).trans ((hgrow.block k (Array.getElem?_eq_some_iff.1 h1).1 (fun e => ?_)).trans h1)
    exact Lib.ownBlock_ne hown h1 ht e.symm
  have HB := hid (hb2.setCell (p := ⟨b, 1, none⟩) hB (.slice av nv cv))
  clear hown hown' hgrow hbk hbk2 hne hb1 hb2 hbc hll hk1
  go_wp2
  go_ret2
  exact ⟨⟨_, rfl⟩, .inr HP.out, HB.out, HK.out⟩


set_option maxHeartbeats 1000000 in
set_option maxRecDepth 100000 in
theorem WriteByte_any (B b : Nat) (l : List UInt8) (c : UInt8) (w : World) (h : Lib.IsBuilder 39 5 B b (Lib.byteCells l) w) (hlen : l.length + 1 ≤ 140737488355328) (hBw : B ≤ w.heap.size) :
    Calls Tryd.prog 54 #[.pointer (some ⟨b, 0, none⟩), .int .u8 (c.toNat : Int)] w fun e w' => (∃ v, e = .returned v) ∧ Lib.IsBuilder 39 5 B b (Lib.byteCells (l ++ [c])) w' ∧ Below B w w' ∧
      (∀ k cs t fr, w.heap[k]? = some (.cells cs t fr) → t ≠ 5 → k ≠ b → w'.heap[k]? = some (.cells cs t fr)) := by
  obtain ⟨i0, hi, hz0, hz1, hz2⟩ := info_parts info_u8
  have hcc := copyCheck_any B b _ w h
  clear h
  go_enter Tryd.func54, Tryd.ntmps54
  go_wp2_with fail
  refine hcc.mono ?_
  rintro e w1 ⟨rfl, h1, hb1, hk1⟩
  obtain ⟨hB, v, hbk, hown, hne⟩ := h1
  have c0 : w1.cell? ⟨b, 0, none⟩ = some (.pointer (some ⟨b, 0, none⟩)) := by rw [Lib.cell_of_heap hbk]; rfl
  have c1 : w1.cell? ⟨b, 1, none⟩ = some v := by rw [Lib.cell_of_heap hbk]; rfl
  have hlt : b < w1.heap.size := (Array.getElem?_eq_some_iff.1 hbk).1
  rw [Lib.byteCells_length] at hown
  have hsz1 := hb1.size
  go_wp2_with (at_builtin; refine wpList_append_own _ rfl _ _ 37 rfl B 5 i0 _ 1 1 Tryd.underlying37 hi hz0 hz1 hz2 rfl (by decide) _ _ _ rfl (hown.alloc _) ⟨w1.heap.size, 0, none⟩ 1 1 [.int .u8 (c.toNat : Int)] rfl rfl (one_new w1 _ _) (by simp; rfl) (by unfold maxLen; omega) (by omega) (by simp; omega) ?_)
  intro v' w2 hown' hgrow _
  have hbk2 : w2.heap[b]? = some (.cells #[.pointer (some ⟨b, 0, none⟩), v] 39 (0, 0)) := (hgrow.block b (by simp; omega) (fun e => hne e.symm)).trans ((Below.heap_alloc w1 _ b hlt).trans hbk)
  have d1 : w2.cell? ⟨b, 1, none⟩ = some v := by rw [Lib.cell_of_heap hbk2]; rfl
  have f1 : w2.frozen? ⟨b, 1, none⟩ = false := Lib.frozen_of_heap hbk2 1
  obtain ⟨av, nv, cv, rfl⟩ := row_slice hown'
  have hb2 : Below B w w2 := (hb1.alloc (by omega) _).grown hgrow (by simp; omega) (fun k e => (hown.lt k e).1)
  have hbc : Lib.byteCells l ++ [.int .u8 (c.toNat : Int)] = Lib.byteCells (l ++ [c]) := by simp [Lib.byteCells]
  rw [hbc] at hown'
  have hll : (Lib.byteCells (l ++ [c])).length = l.length + 1 := by rw [Lib.byteCells_length]; simp
  rw [← hll] at hown'
  have HP := hid (Lib.BuilderAt.put (p := .pointer (some ⟨b, 0, none⟩)) hB hbk2 hown' (by decide))
  have HK : Hid (∀ k cs t fr, w.heap[k]? = some (.cells cs t fr) → t ≠ 5 → k ≠ b → (w2.setCell ⟨b, 1, none⟩ (.slice av nv cv)).heap[k]? = some (.cells cs t fr)) := fun k cs t fr hc ht hkb => by
    have h1 := (hk1 k hkb).trans hc
    have hk := (Array.getElem?_eq_some_iff.1 h1).1
    refine (Below.heap_setCell w2 _ _ k hkb).trans ((hgrow.block k (by simp; omega) (fun e => ?_)).trans ((Below.heap_alloc w1 _ k hk).trans h1))
    exact Lib.ownBlock_ne hown h1 ht e.symm
  have HB := hid (hb2.setCell (p := ⟨b, 1, none⟩) hB (.slice av nv cv))
  clear hown hown' hgrow hbk hbk2 hne hb1 hb2 hbc hll hk1
  go_wp2
  go_ret
  exact ⟨⟨_, rfl⟩, .inr HP.out, HB.out, HK.out⟩

theorem IsBuilder.alloc {B b : Nat} {bs : List Value} {w : World} (h : Lib.IsBuilder 39 5 B b bs w) (o : Obj) : Lib.IsBuilder 39 5 B b bs (w.alloc o) := by
  have key : ∀ p, Lib.BuilderAt 39 5 B b p bs w → Lib.BuilderAt 39 5 B b p bs (w.alloc o) := fun p hp => by
    have hlt := hp.lt
    obtain ⟨hB, v, hb, ho, hne⟩ := hp
    exact ⟨hB, v, (Below.heap_alloc w o b hlt).trans hb, ho.alloc o, hne⟩
  exact h.imp (key _) (key _)
theorem IsBuilder.below {B b : Nat} {bs : List Value} {w w' : World} (h : Lib.IsBuilder 39 5 B b bs w) (hw : Below w.heap.size w w') : Lib.IsBuilder 39 5 B b bs w' := by
  have key : ∀ p, Lib.BuilderAt 39 5 B b p bs w → Lib.BuilderAt 39 5 B b p bs w' := fun p hp => by
    have hlt := hp.lt
    obtain ⟨hB, v, hb, ho, hne⟩ := hp
    refine ⟨hB, v, (hw.block b hlt).trans hb, ⟨ho.1, ?_⟩, hne⟩
    rcases ho.2 with h | ⟨g, cap, cur, hv, hg, hh, r⟩
    · exact .inl h
    · exact .inr ⟨g, cap, cur, hv, hg, (hw.block g (Array.getElem?_eq_some_iff.1 hh).1).trans hh, r⟩
  exact h.imp (key _) (key _)
end Go.Proofs.YtoedgcpfomgagaaDoor
