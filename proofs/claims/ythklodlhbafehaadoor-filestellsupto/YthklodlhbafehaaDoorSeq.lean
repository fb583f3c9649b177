/- strings.SplitSeq at a slash: the iterator hands out the pieces of a text, one by one. -/
import Derived.Test.YthklodlhbafehaaDoorWay
import Derived.Test.YthklodlhbafehaaDoorRounds
import Derived.RangeFuncBound
import Derived.RangeFuncCalls
import Derived.RangeFuncLeaves
import Derived.Shelf.Abstract
import Derived.Shelf.RegionOpen
import Derived.OwnWalkIn
import Derived.TacticsInMore
import Derived.LoopNIn
import Derived.LoopIn
import Derived.Lib.IndexBytes
namespace Go.Proofs.YthklodlhbafehaaDoor
open Go.RowKit Go.Shelf
attribute [local go_sem] Oper.semAt_some

theorem pcsB_miss (s : ByteArray) (h : Lib.indexByte s.data.toList 47 = -1) : pcsB s = [s] := by
  unfold pcsB
  rw [Lib.splitB_miss]
  show Lib.index s.data.toList [47] = -1
  rw [Lib.index_one]; exact h
theorem pcsB_hit (s : ByteArray) (i : Nat) (h : Lib.indexByte s.data.toList 47 = i) : pcsB s = s.extract 0 i :: pcsB (s.extract (i + 1) s.size) := by
  have hb : Lib.indexB s slash = i := by show Lib.index s.data.toList [47] = i; rw [Lib.index_one]; exact h
  have hc := Lib.countB_hit s slash i (by decide) hb
  unfold pcsB
  rw [hc, Nat.add_comm, Lib.splitB_hit slash 0 _ s i hb]
  rfl

theorem indexByte_lt (l : List UInt8) (c : UInt8) (i : Nat) (h : Lib.indexByte l c = i) : i < l.length := by
  have := (Lib.indexByte_some h).1
  exact (List.getElem?_eq_some_iff.1 this).1

/-- The three boxes of the iterator, from block N on, lie as they lay. -/
def KeepsBoxes (N : Nat) (W W' : World) : Prop := ∀ k, N ≤ k → k < N + 3 → W'.heap[k]? = W.heap[k]?

/-- The iterator's own place: how much is left. -/
def leftOf (N : Nat) (w : World) : Nat := match w.cell? ⟨N, 0, none⟩ with | some (.string s) => s.size | _ => 0

structure SeqBoxes (N : Nat) (s : ByteArray) (w : World) : Prop where
  text : w.heap[N]? = some (.cells #[.string s] 9 (0, 0))
  sep : w.heap[N + 1]? = some (.cells #[.string { data := #[47] }] 9 (0, 0))
  save : w.heap[N + 2]? = some (.cells #[.int .i64 0] 3 (0, 0))

theorem SeqBoxes.keeps {N : Nat} {s : ByteArray} {w w' : World} (h : SeqBoxes N s w) (hk : KeepsBoxes N w w') : SeqBoxes N s w' :=
  ⟨(hk N (Nat.le_refl _) (by omega)).trans h.text, (hk (N + 1) (by omega) (by omega)).trans h.sep, (hk (N + 2) (by omega) (by omega)).trans h.save⟩

theorem SeqBoxes.cells {N : Nat} {s : ByteArray} {w : World} (h : SeqBoxes N s w) : w.cell? ⟨N, 0, none⟩ = some (.string s) ∧ w.frozen? ⟨N, 0, none⟩ = false ∧ w.cell? ⟨N + 1, 0, none⟩ = some (.string { data := #[47] }) ∧ w.cell? ⟨N + 2, 0, none⟩ = some (.int .i64 0) := by
  refine ⟨?_, ?_, ?_, ?_⟩ <;> simp [World.cell?, World.frozen?, h.text, h.sep, h.save]

theorem SeqBoxes.store {N : Nat} {s : ByteArray} {w : World} (h : SeqBoxes N s w) (s' : ByteArray) : SeqBoxes N s' (w.setCell ⟨N, 0, none⟩ (.string s')) := by
  refine ⟨?_, ?_, ?_⟩
  · have := Go.Joins.block_setCell (i := 0) h.text (.string s'); simpa using this
  · exact (Below.heap_setCell w ⟨N, 0, none⟩ _ (N + 1) (by simp)).trans h.sep
  · exact (Below.heap_setCell w ⟨N, 0, none⟩ _ (N + 2) (by simp)).trans h.save

theorem SeqBoxes.left {N : Nat} {s : ByteArray} {w : World} (h : SeqBoxes N s w) : leftOf N w = s.size := by simp [leftOf, h.cells.1]

set_option maxHeartbeats 1000000 in
theorem splitSeq_cell (n N : Nat) (path : ByteArray) (w : World) (hN : N + 2 < w.heap.size) (hp : path.size ≤ maxLen) (hB : SeqBoxes N path w) :
    SeqCell Fence.wide n Tryd.prog 56 #[.pointer (some ⟨N + 1, 0, none⟩), .pointer (some ⟨N, 0, none⟩), .pointer (some ⟨N + 2, 0, none⟩)] (fun x : ByteArray => #[.string x]) (KeepsBoxes N) N (pcsB path) w := by
  intro l J Jx W hW hJ hJx hY h0
  have hBW : SeqBoxes N path W := ⟨(hW.block N (by omega)).trans hB.text, (hW.block (N + 1) (by omega)).trans hB.sep, (hW.block (N + 2) (by omega)).trans hB.save⟩
  clear hB hW hN
  unfold maxLen at hp
  refine callsIn_of_wp Tryd.func56 rfl trivial ?_ rfl
  simp only [Tryd.ntmps56, List.size_toArray, List.length_cons, List.length_nil, Nat.reduceAdd, Nat.reduceSub, Array.replicate_succ, Array.replicate_zero, List.push_toArray, List.append_toArray, List.nil_append, List.cons_append]
  obtain ⟨c0, f0, c1, c2⟩ := hBW.cells
  gi_wp2
  clear c0 f0 c1 c2
  gi_loopw [7, 8] (fun _ _ wr => ∃ (pre : List ByteArray) (s : ByteArray), Hid (pcsB path = pre ++ pcsB s) ∧ s.size ≤ path.size ∧ SeqBoxes N s wr ∧ J pre wr) (fun _ _ wr => leftOf N wr)
  case atStart => exact ⟨[], path, rfl, Nat.le_refl _, hBW, h0⟩
  case round =>
    obtain ⟨pre, s, HX, hsz, hb, hj⟩ := hrel
    obtain ⟨c0, f0, c1, c2⟩ := hb.cells
    have hix := Tryd.strings_Index_one s 47 wr
    by_cases hmiss : Lib.indexByte s.data.toList 47 = -1
    · have HP : Hid (pcsB path = pre ++ [s]) := by show _ = _; rw [HX.out, pcsB_miss s hmiss]
      rw [hmiss] at hix
      clear hmiss HX
      obtain ⟨fn, tmps, assign, body, hy, hR⟩ := hY pre s wr hj (by rw [HP.out]; exact List.prefix_rfl)
      gi_wp2
      refine ⟨trivial, fun h => (by cases h), (callsIn_wide.2 hix).mono ?_⟩
      rintro e w' ⟨rfl, rfl⟩
      gi_wp2
      refine ⟨fun h => (by cases h), hR.mono ?_⟩
      rintro e W3 (⟨rfl, hJ3, hk3⟩ | ⟨rfl, hJx3⟩)
      · gi_wp2
        go_end0
        exact ⟨⟨_, rfl⟩, .inl (by rw [HP.out]; exact hJ3)⟩
      · gi_wp2
        go_end0
        exact ⟨⟨_, rfl⟩, .inr ⟨_, by rw [HP.out]; exact List.prefix_rfl, hJx3⟩⟩
    · obtain ⟨i, hi⟩ : ∃ i : Nat, Lib.indexByte s.data.toList 47 = i := ⟨(Lib.indexByte s.data.toList 47).toNat, by have := Lib.indexByte_ge s.data.toList 47; omega⟩
      have hlt : i < s.size := by have := indexByte_lt _ _ _ hi; simpa using this
      have HP : Hid (pcsB path = pre ++ (s.extract 0 i :: pcsB (s.extract (i + 1) s.size))) := by show _ = _; rw [HX.out, pcsB_hit s i hi]
      rw [hi] at hix
      clear hmiss HX hi
      obtain ⟨fn, tmps, assign, body, hy, hR⟩ := hY pre (s.extract 0 i) wr hj (by rw [HP.out]; exact ⟨pcsB (s.extract (i + 1) s.size), by simp⟩)
      have hL := hid hb.left
      gi_wp2
      refine ⟨trivial, fun h => (by cases h), (callsIn_wide.2 hix).mono ?_⟩
      rintro e w' ⟨rfl, rfl⟩
      gi_wp2
      refine ⟨fun h => (by cases h), hR.mono ?_⟩
      rintro e W3 (⟨rfl, hJ3, hk3⟩ | ⟨rfl, hJx3⟩)
      · have hb3 := hb.keeps hk3
        obtain ⟨c0, f0, c1, c2⟩ := hb3.cells
        gi_wp2
        go_roundw
        case rel => exact ⟨pre ++ [s.extract 0 i], s.extract (i + 1) s.size, by show _ = _; rw [HP.out]; simp, by simp [ByteArray.size_extract]; omega, hb3.store _, hJ _ _ _ hJ3⟩
        case measure => rw [(hb3.store _).left, hL.out]; simp [ByteArray.size_extract]; omega
      · gi_wp2
        refine bodyPost_ret (results_none rfl _ _ _) rfl ?_
        exact ⟨⟨_, rfl⟩, .inr ⟨_, by rw [HP.out]; exact ⟨pcsB (s.extract (i + 1) s.size), by simp⟩, hJx3⟩⟩

end Go.Proofs.YthklodlhbafehaaDoor
