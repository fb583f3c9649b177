/- What is left of what a token hides, where another one hides it, too. · Copies of nothing. · Walk of Paste, of any tokens. · Walk of the document's own Paste. · Walk of the document's own SameToken, of tokens that hide the same. · Walk of the document's own Undef. · Walk of the document's own Quote. -/
import Derived.Test.YtedmcefckcmheaaGreatDoorMcB
import Derived.Test.YtedmcefckcmheaaGreatDoorMcShelfC
import Derived.Lib.OwnBridge
import Derived.Test.YtedmcefckcmheaaGreatDoorMcJ
import Derived.Test.YtedmcefckcmheaaGreatDoorMcToks
import Derived.Test.YtedmcefckcmheaaGreatDoorMcC
import Derived.Test.YtedmcefckcmheaaGreatDoorMcA
namespace Go.Proofs.YtedmcefckcmheaaGreatDoor
section
open Go.RowKit Go.Shelf

theorem contains_same (a : Option Addr) (c : Nat) (ss : List ByteArray) (x : ByteArray) (w : World) (hS : StAt w a ss) (hl : ss.length ≤ 1048576) :
    Calls Tryz.prog 51 #[.slice a ss.length c, .string x] w fun e w' => e = .returned (.bool (Lib.containsS ss x)) ∧ w' = w := by
  rcases hS with rfl | ⟨b, off, rfl, hb, hc⟩
  · refine (Any.slices_Contains_string_empty Tryz.layContainsS a c x w).mono ?_
    rintro e w' ⟨rfl, rfl⟩
    exact ⟨rfl, rfl⟩
  · refine (Any.slices_Contains_string Tryz.layContainsS b off ss.length c ss x w (Nat.le_refl _) (by omega) (fun j hj => hc j _ (by simp [List.getD, List.getElem?_eq_getElem hj]))).mono ?_
    rintro e w' ⟨rfl, rfl⟩
    rw [List.take_length]
    exact ⟨rfl, rfl⟩
set_option maxRecDepth 100000 in
/-- The question that is asked of each name. -/
theorem hides_gives (Bb : Nat) (ba : Option Addr) (bc : Nat) (bs : List ByteArray) (x : ByteArray) (W : World) (hcell : W.cell? ⟨Bb, 8, none⟩ = some (.slice ba bs.length bc)) (hS : StAt W ba bs) (hl : bs.length ≤ 1048576) :
    FnGives Tryz.prog 50 #[.pointer (some ⟨Bb, 0, none⟩)] #[.string x] (.bool (!Lib.containsS bs x)) W := by
  have HC := hid (contains_same ba bc bs x W hS hl)
  show Calls Tryz.prog 50 #[.string x, .pointer (some ⟨Bb, 0, none⟩)] W _
  clear hS hl
  go_enter Tryz.func50, Tryz.ntmps50
  go_wp2_with fail
  refine HC.out.mono ?_
  rintro e w' ⟨rfl, rfl⟩
  go_wp2_with fail
  go_ret
  exact ⟨rfl, 0, rfl⟩
/-- Which names stay. -/
def hideL (hs bs : List ByteArray) : List ByteArray := hs.filter fun x => Lib.containsS bs x
theorem StAt.news {w : World} {b off : Nat} {hs : List ByteArray} (hc : ∀ (j : Nat) x, hs[j]? = some x → w.cell? ⟨b, off + j, none⟩ = some (.string x)) : ∀ (j : Nat) u, (hs.map Value.string)[j]? = some u → w.cell? ⟨b, off + j, none⟩ = some u := by
  intro j u hu
  rw [List.getElem?_map] at hu
  cases hx : hs[j]? with
  | none => rw [hx] at hu; cases hu
  | some x => rw [hx] at hu; cases hu; exact hc j x hx
set_option maxRecDepth 100000 in
theorem cloneS_row (b off c : Nat) (hs : List ByteArray) (w : World) (hc : ∀ (j : Nat) x, hs[j]? = some x → w.cell? ⟨b, off + j, none⟩ = some (.string x)) (hl : hs.length ≤ 1048576) :
    Calls Tryz.prog 49 #[.slice (some ⟨b, off, none⟩) hs.length c] w fun e w' => ∃ v', e = .returned v' ∧ w'.ownsRow w.heap.size 9 1 v' hs.length (hs.map Value.string) ∧ v' ≠ .slice none 0 0 ∧ Below w.heap.size w w' := by
  obtain ⟨i0, hi, hz0, hz1, hz2⟩ := info_parts info_str
  exact AnyE.slices_Clone Tryz.layCloneS i0 _ 1 16 hi hz0 hz1 hz2 rfl (by decide) Tryz.sizeOf9 b off hs.length c (hs.map Value.string) w (by simp) (by unfold maxLen; omega) (by omega) (StAt.news hc) (fun u hu => by obtain ⟨x, _, rfl⟩ := List.mem_map.1 hu; rfl)
theorem heap_sorted {enc : ByteArray → Value} (w : World) (blk off n : Nat) (dk : Array ByteArray) (os : Array Obj) (k : Nat) (hk : k < w.heap.size) (hne : k ≠ blk) : (sortWorld enc w blk off n dk os).heap[k]? = w.heap[k]? := by
  unfold sortWorld
  rw [Sort.heap_grow_old _ _ (by simpa using hk)]
  simp [Go.Sort.putRow, Go.Sort.mapBlock, Go.Sort.ahead, Array.getElem?_modify]
  intro h
  exact absurd h.symm hne
set_option maxRecDepth 100000 in
theorem deleteS_row (w0 : World) (g cap : Nat) (hs bs : List ByteArray) (Bb : Nat) (ba : Option Addr) (bc : Nat) (w : World) (hown : w.ownsRow w0.heap.size 9 1 (.slice (some ⟨g, 0, none⟩) hs.length cap) hs.length (hs.map Value.string)) (hb : Below w0.heap.size w0 w) (hBb : Bb < w0.heap.size) (hcell : w0.cell? ⟨Bb, 8, none⟩ = some (.slice ba bs.length bc)) (hS : StAt w0 ba bs) (hl : bs.length ≤ 1048576) :
    Calls Tryz.prog 48 #[.slice (some ⟨g, 0, none⟩) hs.length cap, .func (.func 50) #[] #[.pointer (some ⟨Bb, 0, none⟩)]] w fun e w' => e = .returned (.slice (some ⟨g, 0, none⟩) (hideL hs bs).length cap) ∧ StAt w' (some ⟨g, 0, none⟩) (hideL hs bs) ∧ Below w0.heap.size w0 w' := by
  have eg : ∀ args w, (callFunc 50 args).run Tryz.prog w = .ok (.enter 50 args) w := enters_of Tryz.func50 (by kernel_rfl) rfl
  obtain ⟨g', cap', hv, hbg, hgl, hnc, hcm, _, hH⟩ := Go.Lib.holds_of_ownsRow hown (by intro h; cases h)
  cases hv
  have hfil : (hs.toArray.toList.filter fun x => !(!Lib.containsS bs x)) = hideL hs bs := by unfold hideL; simp
  have hcB : ∀ W : World, (∀ k, k < w0.heap.size → W.heap[k]? = w0.heap[k]?) → w0.heap.size ≤ W.heap.size → W.cell? ⟨Bb, 8, none⟩ = some (.slice ba bs.length bc) ∧ StAt W ba bs := fun W hW hz => by
    refine ⟨(World.cell?_of_block (a := ⟨Bb, 8, none⟩) (hW Bb hBb)).trans hcell, ?_⟩
    rcases hS with h | ⟨b, off, rfl, hlt, hc⟩
    · exact .inl h
    · exact .inr ⟨b, off, rfl, by omega, fun j x hx => (World.cell?_of_block (a := ⟨b, _, none⟩) (hW b hlt)).trans (hc j x hx)⟩
  have h0 := AnyE.slices_DeleteFunc Tryz.layDeleteS Value.string (fun x => rfl) (fun x => !Lib.containsS bs x) 50 #[.pointer (some ⟨Bb, 0, none⟩)] eg ByteArray.empty Tryz.zeroValue9 g 0 cap hs.toArray w
    (fun W x hW => by
      have := hcB W (fun k hk => ((hb.trans (hW.mono hb.size)).block k hk)) (Nat.le_trans hb.size hW.size)
      exact hides_gives Bb ba bc bs x W this.1 this.2 hl)
    (fun n os dk x _ => by
      have := hcB (sortWorld Value.string w g 0 n dk os) (fun k hk => (heap_sorted w g 0 n dk os k (Nat.lt_of_lt_of_le hk hb.size) (by omega)).trans (hb.block k hk)) (Nat.le_trans hb.size (by
        unfold sortWorld
        show _ ≤ (_ ++ os).size
        rw [Array.size_append]
        simp [Go.Sort.putRow, Go.Sort.mapBlock, Go.Sort.ahead]))
      exact hides_gives Bb ba bc bs x _ this.1 this.2 hl)
    hH (by unfold maxLen at hcm; simp; omega) (by simpa using hnc)
  rw [hfil] at h0
  refine h0.mono ?_
  rintro e w' ⟨rfl, q, rfl⟩
  have hlen : (hideL hs bs).length ≤ hs.length := List.length_filter_le _ _
  have ho := Go.Lib.ownsRow_putRow (q := q) (ys := hideL hs bs ++ List.replicate (hs.toArray.size - (hideL hs bs).length) ByteArray.empty) hown (by simp; omega) hlen
  refine ⟨rfl, ?_, Go.Lib.below_putRow hb hbg⟩
  rw [List.take_left' rfl] at ho
  rcases ho.2 with ⟨h, _⟩ | ⟨g2, cap2, cur, hv2, _, hg2, hn2, _, hs2, ht2⟩
  · cases h
  · cases hv2
    refine .inr ⟨g, 0, rfl, lt_of_block hg2, fun j x hx => ?_⟩
    rw [Go.Joins.cell_of_block hg2, Nat.zero_add, ← Array.getElem?_toList]
    have hj : j < (hideL hs bs).length := (List.getElem?_eq_some_iff.1 hx).1
    have e1 : (cur.toList.take ((hideL hs bs).length * 1))[j]? = ((hideL hs bs).map Value.string)[j]? := by rw [ht2]
    rw [List.getElem?_take_of_lt (by omega), List.getElem?_map, hx] at e1
    exact e1
end
section
open Go.RowKit Go.Shelf

set_option maxRecDepth 100000 in
theorem cloneS_zero (ad : Addr) (c : Nat) (w : World) : Calls Tryz.prog 49 #[.slice (some ad) 0 c] w fun e w' => e = .returned (.slice (some ⟨w.heap.size, 0, none⟩) 0 0) ∧ Below w.heap.size w w' := by
  have q22 : ∀ (w : World) (a : Option Addr) (n c n' c' : Nat), (binOp .eql 22 (.slice a n c) (.slice none n' c')).run Tryz.prog w = .ok (.bool a.isNone) w := fun w a n c n' c' => Lib.run_eql_slice_nil w _ _ a n c n' c' Tryz.underlying22
  go_enter Tryz.func49, Tryz.ntmps49
  go_wp2_with fail
  go_ret
  exact ⟨rfl, (Below.refl _ w).alloc (Nat.le_refl _) _⟩
set_option maxRecDepth 100000 in
theorem indexS_zero (ad : Addr) (fv : Value) (w : World) : Calls Tryz.prog 69 #[.slice (some ad) 0 0, fv] w fun e w' => e = .returned (.int .i64 (-1)) ∧ w' = w := by
  go_enter Tryz.func69, Tryz.ntmps69
  go_wp2_with fail
  refine wp_loop_rounds 1 ?_
  rw [rounds_succ]
  go_wp2_with fail
  go_ret
  exact ⟨rfl, rfl⟩
set_option maxRecDepth 100000 in
theorem deleteS_zero (ad : Addr) (fv : Value) (w : World) : Calls Tryz.prog 48 #[.slice (some ad) 0 0, fv] w fun e w' => e = .returned (.slice (some ad) 0 0) ∧ w' = w := by
  have HI := hid (indexS_zero ad fv w)
  go_enter Tryz.func48, Tryz.ntmps48
  go_wp2_with fail
  refine HI.out.mono ?_
  rintro e w1 ⟨rfl, hw1⟩
  subst w1
  go_wp2_with fail
  go_ret
  exact ⟨rfl, rfl⟩
/-- A copy of names. -/
def CopyOf (w w' : World) (hs : List ByteArray) (v' : Value) : Prop :=
  (v' = .slice none 0 0 ∧ hs = []) ∨ (∃ g, v' = .slice (some ⟨g, 0, none⟩) 0 0 ∧ hs = []) ∨ ∃ g cap, v' = .slice (some ⟨g, 0, none⟩) hs.length cap ∧ w'.ownsRow w.heap.size 9 1 v' hs.length (hs.map Value.string)
theorem cloneS_any (ha : Option Addr) (c : Nat) (hs : List ByteArray) (w : World) (hS : StAt w ha hs) (hl : hs.length ≤ 1048576) :
    Calls Tryz.prog 49 #[.slice ha hs.length c] w fun e w' => ∃ v', e = .returned v' ∧ CopyOf w w' hs v' ∧ Below w.heap.size w w' := by
  rcases hS with rfl | ⟨b, off, rfl, hb, hc⟩
  · cases ha with
    | none =>
      refine (AnyE.slices_Clone_nil Tryz.layCloneS 0 c w).mono ?_
      rintro e w' ⟨rfl, rfl⟩
      exact ⟨_, rfl, .inl ⟨rfl, rfl⟩, Below.refl _ _⟩
    | some ad =>
      refine (cloneS_zero ad c w).mono ?_
      rintro e w' ⟨rfl, hb⟩
      exact ⟨_, rfl, .inr (.inl ⟨_, rfl, rfl⟩), hb⟩
  · refine (cloneS_row b off c hs w hc hl).mono ?_
    rintro e w' ⟨v', rfl, ho, hne, hb'⟩
    rcases ho.2 with ⟨h, _⟩ | ⟨g, cap, cur, rfl, _⟩
    · exact absurd h hne
    · exact ⟨_, rfl, .inr (.inr ⟨g, cap, rfl, ho⟩), hb'⟩
def HidePost (w0 : World) (l : List ByteArray) (e : Ending) (w' : World) : Prop := ∃ a' c', e = .returned (.slice a' l.length c') ∧ StAt w' a' l ∧ Below w0.heap.size w0 w' ∧ (l = [] ∨ ∃ g, a' = some ⟨g, 0, none⟩ ∧ w0.heap.size ≤ g)
theorem deleteS_any (w0 : World) (hs bs : List ByteArray) (v : Value) (Bb : Nat) (ba : Option Addr) (bc : Nat) (w : World) (hv : CopyOf w0 w hs v) (hb : Below w0.heap.size w0 w) (hBb : Bb < w0.heap.size) (hcell : w0.cell? ⟨Bb, 8, none⟩ = some (.slice ba bs.length bc)) (hS : StAt w0 ba bs) (hl : bs.length ≤ 1048576) :
    Calls Tryz.prog 48 #[v, .func (.func 50) #[] #[.pointer (some ⟨Bb, 0, none⟩)]] w (HidePost w0 (hideL hs bs)) := by
  rcases hv with ⟨rfl, rfl⟩ | ⟨g, rfl, rfl⟩ | ⟨g, cap, rfl, ho⟩
  · refine (deleteS_none _ w).mono ?_
    rintro e w' ⟨rfl, rfl⟩
    exact ⟨none, 0, rfl, .inl rfl, hb, .inl rfl⟩
  · refine (deleteS_zero _ _ w).mono ?_
    rintro e w' ⟨rfl, rfl⟩
    exact ⟨_, _, rfl, .inl rfl, hb, .inl rfl⟩
  · refine (deleteS_row w0 g cap hs bs Bb ba bc w ho hb hBb hcell hS hl).mono ?_
    rintro e w' ⟨rfl, hS', hb'⟩
    have hg : w0.heap.size ≤ g := (ho.lt g rfl).1
    exact ⟨_, _, rfl, hS', hb', .inr ⟨g, rfl, hg⟩⟩
end
section
open Go.RowKit Go.Shelf

/-- What Paste answers. -/
def PasteR (o : Option Tk) (tx : ByteArray) (asp af : Bool) (afi al ah an : Int) (ca : Option Addr) (cn cc : Nat) (l : List ByteArray) (w : World) (e : Ending) (w' : World) : Prop := match o with
  | some t => ∃ a' c', e = .returned (.tuple #[.agg #[.int .i64 t.kind, .string tx, .bool asp, .bool af, .int .i64 afi, .int .i64 al, .int .i64 ah, .int .i64 an, .slice a' l.length c', .slice ca cn cc, .int .i64 1], .bool true]) ∧ StAt w' a' l ∧ Below w.heap.size w w'
  | none => e = .returned (.tuple #[.agg #[.int .i64 0, .string ⟨#[]⟩, .bool false, .bool false, .int .i64 0, .int .i64 0, .int .i64 0, .int .i64 0, .slice none 0 0, .slice none 0 0, .int .i64 0], .bool false]) ∧ Below w.heap.size w w'
/-- Three cells of one block, written; two others as they were. -/
theorem three_sets {W : World} {A B R : Nat} {T : TypeId} {u0 u1 u2 u3 u4 u5 u6 u7 u8 u9 u10 : Value} {oB oR : Obj} (gA : W.heap[A]? = some (.cells #[u0, u1, u2, u3, u4, u5, u6, u7, u8, u9, u10] T)) (gB : W.heap[B]? = some oB) (gR : W.heap[R]? = some oR) (hB : B ≠ A) (hR : R ≠ A) (v0 v1 v10 : Value) :
    (((W.setCell ⟨A, 0, none⟩ v0).setCell ⟨A, 1, none⟩ v1).setCell ⟨A, 10, none⟩ v10).heap[A]? = some (.cells #[v0, v1, u2, u3, u4, u5, u6, u7, u8, u9, v10] T) ∧ (((W.setCell ⟨A, 0, none⟩ v0).setCell ⟨A, 1, none⟩ v1).setCell ⟨A, 10, none⟩ v10).heap[B]? = some oB ∧ (((W.setCell ⟨A, 0, none⟩ v0).setCell ⟨A, 1, none⟩ v1).setCell ⟨A, 10, none⟩ v10).heap[R]? = some oR := by
  have g1 := Go.Joins.block_setCell (i := 0) gA v0
  have g2 := Go.Joins.block_setCell (i := 1) g1 v1
  have g3 := Go.Joins.block_setCell (i := 10) g2 v10
  refine ⟨by simpa using g3, ?_, ?_⟩
  · rw [Below.heap_setCell _ _ _ B hB, Below.heap_setCell _ _ _ B hB, Below.heap_setCell _ _ _ B hB]; exact gB
  · rw [Below.heap_setCell _ _ _ R hR, Below.heap_setCell _ _ _ R hR, Below.heap_setCell _ _ _ R hR]; exact gR
theorem three_sets_below {w W : World} (h : Below w.heap.size w W) (v0 v1 v10 : Value) : Below w.heap.size w (((W.setCell ⟨w.heap.size, 0, none⟩ v0).setCell ⟨w.heap.size, 1, none⟩ v1).setCell ⟨w.heap.size, 10, none⟩ v10) :=
  ((h.setCell (p := ⟨w.heap.size, 0, none⟩) (Nat.le_refl _) _).setCell (p := ⟨w.heap.size, 1, none⟩) (Nat.le_refl _) _).setCell (p := ⟨w.heap.size, 10, none⟩) (Nat.le_refl _) _
theorem put_two {W : World} {A B : Nat} {T : TypeId} (hne : B ≠ A) {a8 u0 u1 u2 u3 u4 u5 u6 u7 u8 u9 u10 v0 v1 v2 v3 v4 v5 v6 v7 v8 v9 v10 : Value} (g : W.heap[B]? = some (.cells #[u0, u1, u2, u3, u4, u5, u6, u7, u8, u9, u10] T)) :
    (((((((((((((W.setCell ⟨A, 8, none⟩ a8).setCell ⟨B, 0, none⟩ v0).setCell ⟨B, 1, none⟩ v1).setCell ⟨B, 2, none⟩ v2).setCell ⟨B, 3, none⟩ v3).setCell ⟨B, 4, none⟩ v4).setCell ⟨B, 5, none⟩ v5).setCell ⟨B, 6, none⟩ v6).setCell ⟨B, 7, none⟩ v7).setCell ⟨B, 8, none⟩ v8).setCell ⟨B, 9, none⟩ v9).setCell ⟨B, 10, none⟩ v10)).heap[B]? = some (.cells #[v0, v1, v2, v3, v4, v5, v6, v7, v8, v9, v10] T) := by
  refine put_one ?_ (u0 := u0) (u1 := u1) (u2 := u2) (u3 := u3) (u4 := u4) (u5 := u5) (u6 := u6) (u7 := u7) (u8 := u8) (u9 := u9) (u10 := u10)
  rw [Below.heap_setCell _ _ _ B hne]
  exact g
theorem put_two_below {w W : World} {A B H : Nat} (hA : H ≤ A) (hB : H ≤ B) {a8 v0 v1 v2 v3 v4 v5 v6 v7 v8 v9 v10 : Value} (h : Below H w W) : Below H w (((((((((((((W.setCell ⟨A, 8, none⟩ a8).setCell ⟨B, 0, none⟩ v0).setCell ⟨B, 1, none⟩ v1).setCell ⟨B, 2, none⟩ v2).setCell ⟨B, 3, none⟩ v3).setCell ⟨B, 4, none⟩ v4).setCell ⟨B, 5, none⟩ v5).setCell ⟨B, 6, none⟩ v6).setCell ⟨B, 7, none⟩ v7).setCell ⟨B, 8, none⟩ v8).setCell ⟨B, 9, none⟩ v9).setCell ⟨B, 10, none⟩ v10)) :=
  put_one_below hB (h.setCell (p := ⟨A, 8, none⟩) hA _)
theorem st_two {wC W : World} {A B : Nat} {a : Option Addr} {l : List ByteArray} {a8 v0 v1 v2 v3 v4 v5 v6 v7 v8 v9 v10 : Value} (h : StAt W a l) (hf : l = [] ∨ ∃ g, a = some ⟨g, 0, none⟩ ∧ wC.heap.size ≤ g) (hB : B < wC.heap.size) (hA : A < wC.heap.size ∨ A ≤ B) : StAt (((((((((((((W.setCell ⟨A, 8, none⟩ a8).setCell ⟨B, 0, none⟩ v0).setCell ⟨B, 1, none⟩ v1).setCell ⟨B, 2, none⟩ v2).setCell ⟨B, 3, none⟩ v3).setCell ⟨B, 4, none⟩ v4).setCell ⟨B, 5, none⟩ v5).setCell ⟨B, 6, none⟩ v6).setCell ⟨B, 7, none⟩ v7).setCell ⟨B, 8, none⟩ v8).setCell ⟨B, 9, none⟩ v9).setCell ⟨B, 10, none⟩ v10)) a l := by
  rcases h with h | ⟨b, off, rfl, hb, hc⟩
  · exact .inl h
  · rcases hf with hf | ⟨g, e, hg⟩
    · exact .inl hf
    · cases e
      have h1 : b ≠ A := by omega
      have h2 : b ≠ B := by omega
      refine .inr ⟨b, 0, rfl, by simpa using hb, fun j x hx => ?_⟩
      refine (World.cell?_of_block (a := ⟨b, _, none⟩) ?_).trans (hc j x hx)
      rw [Below.heap_setCell _ _ _ b h2, Below.heap_setCell _ _ _ b h2, Below.heap_setCell _ _ _ b h2, Below.heap_setCell _ _ _ b h2, Below.heap_setCell _ _ _ b h2, Below.heap_setCell _ _ _ b h2, Below.heap_setCell _ _ _ b h2, Below.heap_setCell _ _ _ b h2, Below.heap_setCell _ _ _ b h2, Below.heap_setCell _ _ _ b h2, Below.heap_setCell _ _ _ b h2, Below.heap_setCell _ _ _ b h1]
def pasteP (ts : List Tk) (l : List UInt8) : Option Tk := match ts with
  | [t] => if t.text.data.toList == l then some t else none
  | _ => none
theorem pasteT_P (l : List UInt8) : pasteT l = pasteP (toksF 0 l).1 l := by
  unfold pasteT pasteP
  rcases (toksF 0 l).1 with _ | ⟨t, _ | ⟨u, r⟩⟩ <;> rfl
set_option maxRecDepth 100000 in
set_option maxHeartbeats 2000000 in
theorem Paste_any (ak : Int) (ax : ByteArray) (asp af : Bool) (afi al ah an : Int) (aa : Option Addr) (ac : Nat) (hs : List ByteArray) (ca : Option Addr) (cn cc : Nat) (am : Int) (bk : Int) (bx : ByteArray) (bsp bf : Bool) (bfi bl bh bn : Int) (ba : Option Addr) (bc : Nat) (bs : List ByteArray) (ga : Option Addr) (gn gc : Nat) (bm : Int) (w : World) (hE : Env w) (hsz : ax.size + bx.size ≤ 1048576) (hA : StAt w aa hs) (hB : StAt w ba bs) (hla : hs.length ≤ 1048576) (hlb : bs.length ≤ 1048576) :
    Calls Tryz.prog 25 #[.agg #[.int .i64 ak, .string ax, .bool asp, .bool af, .int .i64 afi, .int .i64 al, .int .i64 ah, .int .i64 an, .slice aa hs.length ac, .slice ca cn cc, .int .i64 am], .agg #[.int .i64 bk, .string bx, .bool bsp, .bool bf, .int .i64 bfi, .int .i64 bl, .int .i64 bh, .int .i64 bn, .slice ba bs.length bc, .slice ga gn gc, .int .i64 bm]] w (PasteR (pasteT (ax.data.toList ++ bx.data.toList)) (ax ++ bx) asp af afi al ah an ca cn cc (hideL hs bs) w) := by
  have hcat : (ax ++ bx).data.toList = ax.data.toList ++ bx.data.toList := by simp
  have HT := hid (fun W (hW : Below w.heap.size w W) => Tokens_any 0 (ax ++ bx) W (hE.below hW))
  rw [← hcat]
  clear hcat hE
  unfold TokPost faultV at HT
  have hadd : ∀ W : World, (Op.stringOp .add ax bx).run Tryz.prog W = .ok (.string (ax ++ bx)) W := fun W => run_string_add_sum W ax bx (by omega)
  generalize ax ++ bx = tx at HT hadd ⊢
  have HCl := hid (fun W (h : Below w.heap.size w W) => cloneS_any aa ac hs W (hA.below h) hla)
  have HDl := hid (fun (wC : World) (h : Below w.heap.size w wC) Bb v W h1 h2 h3 h4 => deleteS_any wC hs bs v Bb ba bc W h1 h2 h3 h4 (hB.below h) hlb)
  unfold HidePost at HDl
  have hb0 : Below w.heap.size w (((w.alloc (.cells #[.int .i64 ak, .string ax, .bool asp, .bool af, .int .i64 afi, .int .i64 al, .int .i64 ah, .int .i64 an, .slice aa hs.length ac, .slice ca cn cc, .int .i64 am] 43)).alloc (.cells #[.int .i64 bk, .string bx, .bool bsp, .bool bf, .int .i64 bfi, .int .i64 bl, .int .i64 bh, .int .i64 bn, .slice ba bs.length bc, .slice ga gn gc, .int .i64 bm] 43)).alloc (.cells #[.int .i64 0, .string ⟨#[]⟩, .bool false, .bool false, .int .i64 0, .int .i64 0, .int .i64 0, .int .i64 0, .slice none 0 0, .slice none 0 0, .int .i64 0] 43)) := (((Below.refl _ w).alloc (Nat.le_refl _) _).alloc (by simp) _).alloc (by simp; omega) _
  have HBY := hid (three_blocks w (.cells #[.int .i64 ak, .string ax, .bool asp, .bool af, .int .i64 afi, .int .i64 al, .int .i64 ah, .int .i64 an, .slice aa hs.length ac, .slice ca cn cc, .int .i64 am] 43) (.cells #[.int .i64 bk, .string bx, .bool bsp, .bool bf, .int .i64 bfi, .int .i64 bl, .int .i64 bh, .int .i64 bn, .slice ba bs.length bc, .slice ga gn gc, .int .i64 bm] 43) (.cells #[.int .i64 0, .string ⟨#[]⟩, .bool false, .bool false, .int .i64 0, .int .i64 0, .int .i64 0, .int .i64 0, .slice none 0 0, .slice none 0 0, .int .i64 0] 43))
  have HB0 := hid hb0
  have HT0 := hid (HT.out _ hb0)
  clear hb0 HT hA hB hla hlb
  rw [pasteT_P]
  generalize (toksF 0 tx.data.toList).1 = ts at HT0 ⊢
  generalize (toksF 0 tx.data.toList).2 = FF at HT0
  obtain ⟨f0, f1, f2⟩ := FF
  rcases ts with _ | ⟨t, _ | ⟨u, r⟩⟩
  · show Calls _ _ _ _ (PasteR none _ _ _ _ _ _ _ _ _ _ _ _)
    unfold PasteR
    dsimp only [List.length_nil] at HT0
    go_enter Tryz.func25, Tryz.ntmps25
    go_wp2_with fail
    generalize (((w.alloc (.cells #[.int .i64 ak, .string ax, .bool asp, .bool af, .int .i64 afi, .int .i64 al, .int .i64 ah, .int .i64 an, .slice aa hs.length ac, .slice ca cn cc, .int .i64 am] 43)).alloc (.cells #[.int .i64 bk, .string bx, .bool bsp, .bool bf, .int .i64 bfi, .int .i64 bl, .int .i64 bh, .int .i64 bn, .slice ba bs.length bc, .slice ga gn gc, .int .i64 bm] 43)).alloc (.cells #[.int .i64 0, .string ⟨#[]⟩, .bool false, .bool false, .int .i64 0, .int .i64 0, .int .i64 0, .int .i64 0, .slice none 0 0, .slice none 0 0, .int .i64 0] 43)) = w0 at HBY HB0 HT0 ⊢
    refine HT0.out.mono ?_
    rintro e w1 ⟨ta, tc, rfl, hTA, hb1, hcap⟩
    have hbn := hb1.alloc hb1.size (.cells #[.int .i64 f0, .int .i64 f1, .int .i64 f2] 29)
    have HB1 := hid (HB0.out.trans (hbn.mono HB0.out.size))
    have g1 := (hbn.block _ (lt_of_block HBY.out.1)).trans HBY.out.1
    have g2 := (hbn.block _ (lt_of_block HBY.out.2.1)).trans HBY.out.2.1
    have g3 := (hbn.block _ (lt_of_block HBY.out.2.2)).trans HBY.out.2.2
    have HL1 := hid (And.intro (lt_of_block g1) (lt_of_block g3))
    clear hTA hcap
    have HG3 := hid g3
    obtain ⟨⟨d0, d1, d2, d3, d4, d5, d6, d7, d8, d9, d10⟩, ⟨y0, y1, y2, y3, y4, y5, y6, y7, y8, y9, y10⟩⟩ := tok_block g3
    clear g1 g2 g3 hb1 hbn
    go_wp2_with fail
    exact bodyPost_ret (paste_ret (put_one HG3.out) _ rfl rfl) rfl ⟨rfl, put_one_below (by omega) HB1.out⟩
  · dsimp only [List.length_cons, List.length_nil] at HT0
    rcases hq : (t.text.data.toList == tx.data.toList) with _ | _
    · have e : pasteP [t] tx.data.toList = none := by unfold pasteP; dsimp only; rw [hq]; rfl
      rw [e]
      clear e
      unfold PasteR
      go_enter Tryz.func25, Tryz.ntmps25
      go_wp2_with fail
      generalize (((w.alloc (.cells #[.int .i64 ak, .string ax, .bool asp, .bool af, .int .i64 afi, .int .i64 al, .int .i64 ah, .int .i64 an, .slice aa hs.length ac, .slice ca cn cc, .int .i64 am] 43)).alloc (.cells #[.int .i64 bk, .string bx, .bool bsp, .bool bf, .int .i64 bfi, .int .i64 bl, .int .i64 bh, .int .i64 bn, .slice ba bs.length bc, .slice ga gn gc, .int .i64 bm] 43)).alloc (.cells #[.int .i64 0, .string ⟨#[]⟩, .bool false, .bool false, .int .i64 0, .int .i64 0, .int .i64 0, .int .i64 0, .slice none 0 0, .slice none 0 0, .int .i64 0] 43)) = w0 at HBY HB0 HT0 ⊢
      refine HT0.out.mono ?_
      rintro e w1 ⟨ta, tc, rfl, hTA, hb1, hcap⟩
      have hbn := hb1.alloc hb1.size (.cells #[.int .i64 f0, .int .i64 f1, .int .i64 f2] 29)
      have HB1 := hid (HB0.out.trans (hbn.mono HB0.out.size))
      have g1 := (hbn.block _ (lt_of_block HBY.out.1)).trans HBY.out.1
      have g2 := (hbn.block _ (lt_of_block HBY.out.2.1)).trans HBY.out.2.1
      have g3 := (hbn.block _ (lt_of_block HBY.out.2.2)).trans HBY.out.2.2
      have HL1 := hid (And.intro (lt_of_block g1) (lt_of_block g3))
      rcases hTA with h0 | ⟨b0, off, rfl, hb0, hcx⟩
      · cases h0
      have hbl := (Below.refl _ w1).alloc (Nat.le_refl _) (.cells #[.int .i64 f0, .int .i64 f1, .int .i64 f2] 29)
      have t0 := (hbl.cell (p := ⟨b0, off + 0 * 11 + 0, none⟩) hb0).trans (hcx 0 t rfl 0 _ rfl)
      have t1 := (hbl.cell (p := ⟨b0, off + 0 * 11 + 1, none⟩) hb0).trans (hcx 0 t rfl 1 _ rfl)
      simp only [Nat.zero_mul, Nat.add_zero] at t0 t1
      have hlt0 : b0 < w1.heap.size := hb0
      have hne1 : (t.text.toList == tx.toList) = false := by rw [toList_data, toList_data]; exact hq
      clear hcx hbl hcap hq
      have HG3 := hid g3
      obtain ⟨⟨d0, d1, d2, d3, d4, d5, d6, d7, d8, d9, d10⟩, ⟨y0, y1, y2, y3, y4, y5, y6, y7, y8, y9, y10⟩⟩ := tok_block g3
      clear g1 g2 g3 hb1 hbn
      go_wp2_with fail
      exact bodyPost_ret (paste_ret (put_one HG3.out) _ rfl rfl) rfl ⟨rfl, put_one_below (by omega) HB1.out⟩
    · have e : pasteP [t] tx.data.toList = some t := by unfold pasteP; dsimp only; rw [hq]; rfl
      rw [e]
      clear e
      unfold PasteR
      go_enter Tryz.func25, Tryz.ntmps25
      go_wp2_with fail
      generalize (((w.alloc (.cells #[.int .i64 ak, .string ax, .bool asp, .bool af, .int .i64 afi, .int .i64 al, .int .i64 ah, .int .i64 an, .slice aa hs.length ac, .slice ca cn cc, .int .i64 am] 43)).alloc (.cells #[.int .i64 bk, .string bx, .bool bsp, .bool bf, .int .i64 bfi, .int .i64 bl, .int .i64 bh, .int .i64 bn, .slice ba bs.length bc, .slice ga gn gc, .int .i64 bm] 43)).alloc (.cells #[.int .i64 0, .string ⟨#[]⟩, .bool false, .bool false, .int .i64 0, .int .i64 0, .int .i64 0, .int .i64 0, .slice none 0 0, .slice none 0 0, .int .i64 0] 43)) = w0 at HBY HB0 HT0 ⊢
      refine HT0.out.mono ?_
      rintro e w1 ⟨ta, tc, rfl, hTA, hb1, hcap⟩
      have hbn := hb1.alloc hb1.size (.cells #[.int .i64 f0, .int .i64 f1, .int .i64 f2] 29)
      have HB1 := hid (HB0.out.trans (hbn.mono HB0.out.size))
      have g1 := (hbn.block _ (lt_of_block HBY.out.1)).trans HBY.out.1
      have g2 := (hbn.block _ (lt_of_block HBY.out.2.1)).trans HBY.out.2.1
      have g3 := (hbn.block _ (lt_of_block HBY.out.2.2)).trans HBY.out.2.2
      have HL1 := hid (And.intro (lt_of_block g1) (lt_of_block g3))
      rcases hTA with h0 | ⟨b0, off, rfl, hb0, hcx⟩
      · cases h0
      have hbl := (Below.refl _ w1).alloc (Nat.le_refl _) (.cells #[.int .i64 f0, .int .i64 f1, .int .i64 f2] 29)
      have t0 := (hbl.cell (p := ⟨b0, off + 0 * 11 + 0, none⟩) hb0).trans (hcx 0 t rfl 0 _ rfl)
      have t1 := (hbl.cell (p := ⟨b0, off + 0 * 11 + 1, none⟩) hb0).trans (hcx 0 t rfl 1 _ rfl)
      simp only [Nat.zero_mul, Nat.add_zero] at t0 t1
      have hlt0 : b0 < w1.heap.size := hb0
      have hne1 : (t.text.toList == tx.toList) = true := by rw [toList_data, toList_data]; exact hq
      clear hcx hbl hcap hq
      obtain ⟨⟨f0', f1', f2', f3', f4', f5', f6', f7', f8', f9', f10'⟩, ⟨z0, z1, z2, z3, z4, z5, z6, z7, z8, z9, z10⟩⟩ := tok_block g1
      have hne12 : w.heap.size ≠ w.heap.size + 1 + 1 := by omega
      have hne13 : w.heap.size + 1 ≠ w.heap.size := by omega
      have hne14 : w.heap.size + 1 + 1 ≠ w.heap.size := by omega
      have HKC := hid (three_sets g1 g2 g3 hne13 hne14 (.int .i64 t.kind) (.string tx) (.int .i64 1))
      have HBC := hid (three_sets_below HB1.out (.int .i64 t.kind) (.string tx) (.int .i64 1))
      clear g1 g2 g3 hb1 hbn
      go_wp2_with fail
      generalize hwC : (((w1.alloc (.cells #[.int .i64 f0, .int .i64 f1, .int .i64 f2] 29)).setCell ⟨w.heap.size, 0, none⟩ (.int .i64 t.kind)).setCell ⟨w.heap.size, 1, none⟩ (.string tx)).setCell ⟨w.heap.size, 10, none⟩ (.int .i64 1) = wC at HKC HBC ⊢
      clear hwC f0' f1' f2' f3' f4' f5' f6' f7' f8' f9' f10' z0 z1 z2 z3 z4 z5 z6 z7 z8 z9 z10
      refine (HCl.out _ HBC.out).mono ?_
      rintro e w2 ⟨v2, rfl, hcp, hb2⟩
      have HD2 := hid (HDl.out wC HBC.out (w.heap.size + 1) v2 w2 hcp hb2 (lt_of_block HKC.out.2.1) (by rw [Go.Joins.cell_of_block HKC.out.2.1]; rfl))
      clear hcp hb2 HCl HDl
      go_wp2_with fail
      refine HD2.out.mono ?_
      rintro e w3 ⟨a3, c3, rfl, hS3, hb3, hfr⟩
      have HS3 := hid (And.intro hS3 hfr)
      have HLC := hid (lt_of_block HKC.out.2.2)
      have HK3 := hid (And.intro ((hb3.block _ (lt_of_block HKC.out.1)).trans HKC.out.1) ((hb3.block _ (lt_of_block HKC.out.2.2)).trans HKC.out.2.2))
      have HB3 := hid (HBC.out.trans (hb3.mono HBC.out.size))
      obtain ⟨⟨p0, p1, p2, p3, p4, p5, p6, p7, p8, p9, p10⟩, ⟨z0, z1, z2, z3, z4, z5, z6, z7, z8, z9, z10⟩⟩ := tok_block HK3.out.1
      obtain ⟨⟨d0, d1, d2, d3, d4, d5, d6, d7, d8, d9, d10⟩, ⟨y0, y1, y2, y3, y4, y5, y6, y7, y8, y9, y10⟩⟩ := tok_block HK3.out.2
      have hl1 := lt_of_block HK3.out.1
      have hl2 := lt_of_block HK3.out.2
      clear hS3 hb3 hfr HD2 HKC HBC
      go_wp2_with fail
      exact bodyPost_ret (paste_ret (put_two hne14 HK3.out.2) _ rfl rfl) rfl ⟨a3, c3, rfl, st_two HS3.out.1 HS3.out.2 HLC.out (by omega), put_two_below (Nat.le_refl _) (by omega) HB3.out⟩
  · show Calls _ _ _ _ (PasteR none _ _ _ _ _ _ _ _ _ _ _ _)
    unfold PasteR
    obtain ⟨N, hN⟩ : ∃ N, (t :: u :: r).length = N := ⟨_, rfl⟩
    have hN1 : ((N : Int) == 1) = false := by rw [beq_eq_false_iff_ne]; rw [← hN]; simp; omega
    have hN2 : ((N : Int) != 1) = true := by rw [bne, hN1]; rfl
    rw [hN] at HT0
    clear hN
    go_enter Tryz.func25, Tryz.ntmps25
    go_wp2_with fail
    generalize (((w.alloc (.cells #[.int .i64 ak, .string ax, .bool asp, .bool af, .int .i64 afi, .int .i64 al, .int .i64 ah, .int .i64 an, .slice aa hs.length ac, .slice ca cn cc, .int .i64 am] 43)).alloc (.cells #[.int .i64 bk, .string bx, .bool bsp, .bool bf, .int .i64 bfi, .int .i64 bl, .int .i64 bh, .int .i64 bn, .slice ba bs.length bc, .slice ga gn gc, .int .i64 bm] 43)).alloc (.cells #[.int .i64 0, .string ⟨#[]⟩, .bool false, .bool false, .int .i64 0, .int .i64 0, .int .i64 0, .int .i64 0, .slice none 0 0, .slice none 0 0, .int .i64 0] 43)) = w0 at HBY HB0 HT0 ⊢
    refine HT0.out.mono ?_
    rintro e w1 ⟨ta, tc, rfl, hTA, hb1, hcap⟩
    have hbn := hb1.alloc hb1.size (.cells #[.int .i64 f0, .int .i64 f1, .int .i64 f2] 29)
    have HB1 := hid (HB0.out.trans (hbn.mono HB0.out.size))
    have g1 := (hbn.block _ (lt_of_block HBY.out.1)).trans HBY.out.1
    have g2 := (hbn.block _ (lt_of_block HBY.out.2.1)).trans HBY.out.2.1
    have g3 := (hbn.block _ (lt_of_block HBY.out.2.2)).trans HBY.out.2.2
    have HL1 := hid (And.intro (lt_of_block g1) (lt_of_block g3))
    clear hTA hcap
    have HG3 := hid g3
    obtain ⟨⟨d0, d1, d2, d3, d4, d5, d6, d7, d8, d9, d10⟩, ⟨y0, y1, y2, y3, y4, y5, y6, y7, y8, y9, y10⟩⟩ := tok_block g3
    clear g1 g2 g3 hb1 hbn
    go_wp2_with fail
    exact bodyPost_ret (paste_ret (put_one HG3.out) _ rfl rfl) rfl ⟨rfl, put_one_below (by omega) HB1.out⟩
end
section
open Go.RowKit Go.Shelf

theorem rpaste_ret {W : World} {F : Nat} {v0 v1 v2 v3 v4 v5 v6 v7 v8 v9 v10 v : Value} (hF : W.heap[F]? = some (.cells #[v0, v1, v2, v3, v4, v5, v6, v7, v8, v9, v10] 43)) (tmps : Array Value) (h4 : tmps.getD 4 undef = .pointer (some ⟨F, 0, none⟩)) (h5 : tmps.getD 5 undef = v) :
    (results Tryz.f26 tmps).run Tryz.prog W = .ok (.tuple #[.agg #[v0, v1, v2, v3, v4, v5, v6, v7, v8, v9, v10], v]) W := by
  obtain ⟨⟨c0, c1, c2, c3, c4, c5, c6, c7, c8, c9, c10⟩, _⟩ := tok_block hF
  simp at h4 h5
  simp [results, Tryz.results26, go_sem, h4, h5, c0, c1, c2, c3, c4, c5, c6, c7, c8, c9, c10]
theorem one_str (w : World) (x : ByteArray) : ∀ j u, ([.string x] : List Value)[j]? = some u → (w.alloc (.cells #[.string x] 9)).cell? ((⟨w.heap.size, 0, none⟩ : Addr).add j) = some u := by
  intro j u hu
  rw [Addr.add_lit, Nat.zero_add, Go.Joins.cell_of_block (heap_alloc_new w _), ← Array.getElem?_toList]
  exact hu
theorem four_sets {W : World} {A R : Nat} {T : TypeId} {u0 u1 u2 u3 u4 u5 u6 u7 u8 u9 u10 : Value} {oR : Obj} (gA : W.heap[A]? = some (.cells #[u0, u1, u2, u3, u4, u5, u6, u7, u8, u9, u10] T)) (gR : W.heap[R]? = some oR) (hR : R ≠ A) (v0 v1 v10 v8 : Value) :
    ((((W.setCell ⟨A, 0, none⟩ v0).setCell ⟨A, 1, none⟩ v1).setCell ⟨A, 10, none⟩ v10).setCell ⟨A, 8, none⟩ v8).heap[A]? = some (.cells #[v0, v1, u2, u3, u4, u5, u6, u7, v8, u9, v10] T) ∧ ((((W.setCell ⟨A, 0, none⟩ v0).setCell ⟨A, 1, none⟩ v1).setCell ⟨A, 10, none⟩ v10).setCell ⟨A, 8, none⟩ v8).heap[R]? = some oR := by
  obtain ⟨h1, h2, _⟩ := three_sets gA gR gR hR hR v0 v1 v10
  have g4 := Go.Joins.block_setCell (i := 8) h1 v8
  refine ⟨by simpa using g4, ?_⟩
  rw [Below.heap_setCell _ _ _ R hR]
  exact h2
theorem row_fresh {W : World} {base : Nat} {a : Option Addr} {n c : Nat} {T : TypeId} {xs : List Value} (h : W.ownsRow base T 1 (.slice a n c) n xs) : a = none ∨ ∃ g, a = some ⟨g, 0, none⟩ ∧ base ≤ g := by
  rcases h.2 with ⟨e, _⟩ | ⟨g, cap, cur, e, hb, _⟩
  · cases e; exact .inl rfl
  · cases e; exact .inr ⟨g, rfl, hb⟩
theorem st_four {W : World} {A base : Nat} {a : Option Addr} {l : List ByteArray} {v0 v1 v10 v8 : Value} (h : StAt W a l) (hf : a = none ∨ ∃ g, a = some ⟨g, 0, none⟩ ∧ base ≤ g) (hA : A < base) : StAt ((((W.setCell ⟨A, 0, none⟩ v0).setCell ⟨A, 1, none⟩ v1).setCell ⟨A, 10, none⟩ v10).setCell ⟨A, 8, none⟩ v8) a l := by
  rcases h with h | ⟨b, off, rfl, hb, hc⟩
  · exact .inl h
  · rcases hf with hf | ⟨g, e, hg⟩
    · cases hf
    · cases e
      have h1 : b ≠ A := by omega
      refine .inr ⟨b, 0, rfl, by simpa using hb, fun j x hx => (World.cell?_of_block (a := ⟨b, _, none⟩) ?_).trans (hc j x hx)⟩
      rw [Below.heap_setCell _ _ _ b h1, Below.heap_setCell _ _ _ b h1, Below.heap_setCell _ _ _ b h1, Below.heap_setCell _ _ _ b h1]
theorem st_one {W : World} {B base : Nat} {a : Option Addr} {l : List ByteArray} {v0 v1 v2 v3 v4 v5 v6 v7 v8 v9 v10 : Value} (h : StAt W a l) (hf : a = none ∨ ∃ g, a = some ⟨g, 0, none⟩ ∧ base ≤ g) (hB : B < base) : StAt ((((((((((((W.setCell ⟨B, 0, none⟩ v0).setCell ⟨B, 1, none⟩ v1).setCell ⟨B, 2, none⟩ v2).setCell ⟨B, 3, none⟩ v3).setCell ⟨B, 4, none⟩ v4).setCell ⟨B, 5, none⟩ v5).setCell ⟨B, 6, none⟩ v6).setCell ⟨B, 7, none⟩ v7).setCell ⟨B, 8, none⟩ v8).setCell ⟨B, 9, none⟩ v9).setCell ⟨B, 10, none⟩ v10)) a l := by
  rcases h with h | ⟨b, off, rfl, hb, hc⟩
  · exact .inl h
  · rcases hf with hf | ⟨g, e, hg⟩
    · cases hf
    · cases e
      have h2 : b ≠ B := by omega
      refine .inr ⟨b, 0, rfl, by simpa using hb, fun j x hx => (World.cell?_of_block (a := ⟨b, _, none⟩) ?_).trans (hc j x hx)⟩
      rw [Below.heap_setCell _ _ _ b h2, Below.heap_setCell _ _ _ b h2, Below.heap_setCell _ _ _ b h2, Below.heap_setCell _ _ _ b h2, Below.heap_setCell _ _ _ b h2, Below.heap_setCell _ _ _ b h2, Below.heap_setCell _ _ _ b h2, Below.heap_setCell _ _ _ b h2, Below.heap_setCell _ _ _ b h2, Below.heap_setCell _ _ _ b h2, Below.heap_setCell _ _ _ b h2]
theorem hideL_snoc (hs bs : List ByteArray) (k : Nat) (x : ByteArray) (h : hs[k]? = some x) : hideL (hs.take (k + 1)) bs = hideL (hs.take k) bs ++ (if Lib.containsS bs x then [x] else []) := by
  unfold hideL
  rw [List.take_add_one, h, List.filter_append]
  congr 1
  cases hc : Lib.containsS bs x <;> simp [hc]
theorem toks_okR {file : Int} {l : List UInt8} {t : Tk} {r : List Tk} (h : (toksF file l).1 = t :: r) : (toksF file l).2.1 = 0 := by
  by_cases h0 : (toksF file l).2.1 = 0
  · exact h0
  · rw [toks_err file l h0] at h
    cases h
set_option maxRecDepth 100000 in
set_option maxHeartbeats 2000000 in
theorem RPaste_any (HR : RToks) (ak : Int) (ax : ByteArray) (asp af : Bool) (afi al ah an : Int) (aa : Option Addr) (ac : Nat) (hs : List ByteArray) (ca : Option Addr) (cn cc : Nat) (am : Int) (bk : Int) (bx : ByteArray) (bsp bf : Bool) (bfi bl bh bn : Int) (ba : Option Addr) (bc : Nat) (bs : List ByteArray) (ga : Option Addr) (gn gc : Nat) (bm : Int) (w : World) (hsz : ax.size + bx.size ≤ 1048576) (hA : StAt w aa hs) (hB : StAt w ba bs) (hla : hs.length ≤ 1048576) (hlb : bs.length ≤ 1048576) :
    Calls Tryz.prog 26 #[.agg #[.int .i64 ak, .string ax, .bool asp, .bool af, .int .i64 afi, .int .i64 al, .int .i64 ah, .int .i64 an, .slice aa hs.length ac, .slice ca cn cc, .int .i64 am], .agg #[.int .i64 bk, .string bx, .bool bsp, .bool bf, .int .i64 bfi, .int .i64 bl, .int .i64 bh, .int .i64 bn, .slice ba bs.length bc, .slice ga gn gc, .int .i64 bm]] w (PasteR (pasteT (ax.data.toList ++ bx.data.toList)) (ax ++ bx) asp af afi al ah an ca cn cc (hideL hs bs) w) := by
  have hcat : (ax ++ bx).data.toList = ax.data.toList ++ bx.data.toList := by simp
  have HT := hid (fun W => HR 0 (ax ++ bx) W)
  rw [← hcat]
  clear hcat HR
  unfold TokPost faultV at HT
  have hadd : ∀ W : World, (Op.stringOp .add ax bx).run Tryz.prog W = .ok (.string (ax ++ bx)) W := fun W => run_string_add_sum W ax bx (by omega)
  generalize ax ++ bx = tx at HT hadd ⊢
  have HHs := hid (fun x W (h : Below w.heap.size w W) => RHas_any ba bc bs x W (hB.below h) hlb)
  have HAA := hid hA
  have hb0 : Below w.heap.size w (((w.alloc (.cells #[.int .i64 ak, .string ax, .bool asp, .bool af, .int .i64 afi, .int .i64 al, .int .i64 ah, .int .i64 an, .slice aa hs.length ac, .slice ca cn cc, .int .i64 am] 43)).alloc (.cells #[.int .i64 bk, .string bx, .bool bsp, .bool bf, .int .i64 bfi, .int .i64 bl, .int .i64 bh, .int .i64 bn, .slice ba bs.length bc, .slice ga gn gc, .int .i64 bm] 43)).alloc (.cells #[.int .i64 0, .string ⟨#[]⟩, .bool false, .bool false, .int .i64 0, .int .i64 0, .int .i64 0, .int .i64 0, .slice none 0 0, .slice none 0 0, .int .i64 0] 43)) := (((Below.refl _ w).alloc (Nat.le_refl _) _).alloc (by simp) _).alloc (by simp; omega) _
  have HBY := hid (three_blocks w (.cells #[.int .i64 ak, .string ax, .bool asp, .bool af, .int .i64 afi, .int .i64 al, .int .i64 ah, .int .i64 an, .slice aa hs.length ac, .slice ca cn cc, .int .i64 am] 43) (.cells #[.int .i64 bk, .string bx, .bool bsp, .bool bf, .int .i64 bfi, .int .i64 bl, .int .i64 bh, .int .i64 bn, .slice ba bs.length bc, .slice ga gn gc, .int .i64 bm] 43) (.cells #[.int .i64 0, .string ⟨#[]⟩, .bool false, .bool false, .int .i64 0, .int .i64 0, .int .i64 0, .int .i64 0, .slice none 0 0, .slice none 0 0, .int .i64 0] 43))
  have HB0 := hid hb0
  have HT0 := hid (HT.out (((w.alloc (.cells #[.int .i64 ak, .string ax, .bool asp, .bool af, .int .i64 afi, .int .i64 al, .int .i64 ah, .int .i64 an, .slice aa hs.length ac, .slice ca cn cc, .int .i64 am] 43)).alloc (.cells #[.int .i64 bk, .string bx, .bool bsp, .bool bf, .int .i64 bfi, .int .i64 bl, .int .i64 bh, .int .i64 bn, .slice ba bs.length bc, .slice ga gn gc, .int .i64 bm] 43)).alloc (.cells #[.int .i64 0, .string ⟨#[]⟩, .bool false, .bool false, .int .i64 0, .int .i64 0, .int .i64 0, .int .i64 0, .slice none 0 0, .slice none 0 0, .int .i64 0] 43)))
  clear hb0 HT hA hB hlb
  have HOK := hid (fun t r => toks_okR (file := 0) (l := tx.data.toList) (t := t) (r := r))
  rw [pasteT_P]
  generalize (toksF 0 tx.data.toList).1 = ts at HT0 HOK ⊢
  generalize (toksF 0 tx.data.toList).2 = FF at HT0 HOK
  obtain ⟨f0, f1, f2⟩ := FF
  rcases ts with _ | ⟨t, _ | ⟨u, r⟩⟩
  · show Calls _ _ _ _ (PasteR none _ _ _ _ _ _ _ _ _ _ _ _)
    unfold PasteR
    dsimp only [List.length_nil] at HT0
    by_cases hf : f0 = 0
    · subst hf
      go_enter Tryz.func26, Tryz.ntmps26
      go_wp2_with fail
      generalize (((w.alloc (.cells #[.int .i64 ak, .string ax, .bool asp, .bool af, .int .i64 afi, .int .i64 al, .int .i64 ah, .int .i64 an, .slice aa hs.length ac, .slice ca cn cc, .int .i64 am] 43)).alloc (.cells #[.int .i64 bk, .string bx, .bool bsp, .bool bf, .int .i64 bfi, .int .i64 bl, .int .i64 bh, .int .i64 bn, .slice ba bs.length bc, .slice ga gn gc, .int .i64 bm] 43)).alloc (.cells #[.int .i64 0, .string ⟨#[]⟩, .bool false, .bool false, .int .i64 0, .int .i64 0, .int .i64 0, .int .i64 0, .slice none 0 0, .slice none 0 0, .int .i64 0] 43)) = w0 at HBY HB0 HT0 ⊢
      refine HT0.out.mono ?_
      rintro e w1 ⟨ta, tc, rfl, hTA, hb1, hcap⟩
      have hbn := hb1.alloc hb1.size (.cells #[.int .i64 0, .int .i64 f1, .int .i64 f2] 29)
      have HB1 := hid (HB0.out.trans (hbn.mono HB0.out.size))
      have g1 := (hbn.block _ (lt_of_block HBY.out.1)).trans HBY.out.1
      have g2 := (hbn.block _ (lt_of_block HBY.out.2.1)).trans HBY.out.2.1
      have g3 := (hbn.block _ (lt_of_block HBY.out.2.2)).trans HBY.out.2.2
      have gf := heap_alloc_new w1 (.cells #[.int .i64 0, .int .i64 f1, .int .i64 f2] 29)
      clear hTA hcap
      have HG1 := hid g1
      have HG2 := hid g2
      have HG3 := hid g3
      clear g1 g2 g3 hb1 hbn
      go_wp2_with fail
      generalize w1.alloc (.cells #[.int .i64 0, .int .i64 f1, .int .i64 f2] 29) = w2 at HB1 HG1 HG2 HG3 gf ⊢
      have qf : w2.cell? ⟨w1.heap.size, 0, none⟩ = some (.int .i64 0) := by rw [Go.Joins.cell_of_block gf]; rfl
      have qa : w2.cell? ⟨w.heap.size, 1, none⟩ = some (.string ax) := by rw [Go.Joins.cell_of_block HG1.out]; rfl
      have qb : w2.cell? ⟨w.heap.size + 1, 1, none⟩ = some (.string bx) := by rw [Go.Joins.cell_of_block HG2.out]; rfl
      have QF := Later.cell qf
      have QA := Later.cell qa
      have QB := Later.cell qb
      have hnn : Nonempty (Later w2) := ⟨⟨_, Below.refl _ _⟩⟩
      clear qf qa qb gf
      refine region_later (by kernel_rfl) (by kernel_rfl) ?_
      repeat (first | go_big_quiet_step (fail) | quiet_step (fail))
      refine wpQuiet_nil ?_
      rintro _ ⟨p, rfl⟩
      have HB3 := hid (HB1.out.trans (p.hb.mono HB1.out.size))
      have HK1 := hid ((p.hb.block _ (lt_of_block HG1.out)).trans HG1.out)
      have HK2 := hid ((p.hb.block _ (lt_of_block HG2.out)).trans HG2.out)
      have HK3 := hid ((p.hb.block _ (lt_of_block HG3.out)).trans HG3.out)
      clear QF QA QB hnn
      generalize p.W = w3 at HB3 HK1 HK2 HK3 ⊢
      obtain ⟨⟨d0, d1, d2, d3, d4, d5, d6, d7, d8, d9, d10⟩, ⟨y0, y1, y2, y3, y4, y5, y6, y7, y8, y9, y10⟩⟩ := tok_block HK3.out
      go_wp2_with fail
      exact bodyPost_ret (rpaste_ret (put_one HK3.out) _ rfl rfl) rfl ⟨rfl, put_one_below (by omega) HB3.out⟩
    · have hfb : (f0 != 0) = true := by simpa using hf
      have hfb2 : (f0 == 0) = false := by simpa using hf
      go_enter Tryz.func26, Tryz.ntmps26
      go_wp2_with fail
      generalize (((w.alloc (.cells #[.int .i64 ak, .string ax, .bool asp, .bool af, .int .i64 afi, .int .i64 al, .int .i64 ah, .int .i64 an, .slice aa hs.length ac, .slice ca cn cc, .int .i64 am] 43)).alloc (.cells #[.int .i64 bk, .string bx, .bool bsp, .bool bf, .int .i64 bfi, .int .i64 bl, .int .i64 bh, .int .i64 bn, .slice ba bs.length bc, .slice ga gn gc, .int .i64 bm] 43)).alloc (.cells #[.int .i64 0, .string ⟨#[]⟩, .bool false, .bool false, .int .i64 0, .int .i64 0, .int .i64 0, .int .i64 0, .slice none 0 0, .slice none 0 0, .int .i64 0] 43)) = w0 at HBY HB0 HT0 ⊢
      refine HT0.out.mono ?_
      rintro e w1 ⟨ta, tc, rfl, hTA, hb1, hcap⟩
      have hbn := hb1.alloc hb1.size (.cells #[.int .i64 f0, .int .i64 f1, .int .i64 f2] 29)
      have HB1 := hid (HB0.out.trans (hbn.mono HB0.out.size))
      have g1 := (hbn.block _ (lt_of_block HBY.out.1)).trans HBY.out.1
      have g2 := (hbn.block _ (lt_of_block HBY.out.2.1)).trans HBY.out.2.1
      have g3 := (hbn.block _ (lt_of_block HBY.out.2.2)).trans HBY.out.2.2
      have gf := heap_alloc_new w1 (.cells #[.int .i64 f0, .int .i64 f1, .int .i64 f2] 29)
      clear hTA hcap
      have HG1 := hid g1
      have HG2 := hid g2
      have HG3 := hid g3
      clear g1 g2 g3 hb1 hbn
      go_wp2_with fail
      generalize w1.alloc (.cells #[.int .i64 f0, .int .i64 f1, .int .i64 f2] 29) = w2 at HB1 HG1 HG2 HG3 gf ⊢
      have qf : w2.cell? ⟨w1.heap.size, 0, none⟩ = some (.int .i64 f0) := by rw [Go.Joins.cell_of_block gf]; rfl
      have qa : w2.cell? ⟨w.heap.size, 1, none⟩ = some (.string ax) := by rw [Go.Joins.cell_of_block HG1.out]; rfl
      have qb : w2.cell? ⟨w.heap.size + 1, 1, none⟩ = some (.string bx) := by rw [Go.Joins.cell_of_block HG2.out]; rfl
      have QF := Later.cell qf
      have QA := Later.cell qa
      have QB := Later.cell qb
      have hnn : Nonempty (Later w2) := ⟨⟨_, Below.refl _ _⟩⟩
      clear qf qa qb gf
      refine region_later (by kernel_rfl) (by kernel_rfl) ?_
      repeat (first | go_big_quiet_step (fail) | quiet_step (fail))
      refine wpQuiet_nil ?_
      rintro _ ⟨p, rfl⟩
      have HB3 := hid (HB1.out.trans (p.hb.mono HB1.out.size))
      have HK1 := hid ((p.hb.block _ (lt_of_block HG1.out)).trans HG1.out)
      have HK2 := hid ((p.hb.block _ (lt_of_block HG2.out)).trans HG2.out)
      have HK3 := hid ((p.hb.block _ (lt_of_block HG3.out)).trans HG3.out)
      clear QF QA QB hnn
      generalize p.W = w3 at HB3 HK1 HK2 HK3 ⊢
      obtain ⟨⟨d0, d1, d2, d3, d4, d5, d6, d7, d8, d9, d10⟩, ⟨y0, y1, y2, y3, y4, y5, y6, y7, y8, y9, y10⟩⟩ := tok_block HK3.out
      go_wp2_with fail
      exact bodyPost_ret (rpaste_ret (put_one HK3.out) _ rfl rfl) rfl ⟨rfl, put_one_below (by omega) HB3.out⟩
  · have hf := HOK.out t [] rfl
    dsimp only at hf
    subst hf
    dsimp only [List.length_cons, List.length_nil] at HT0
    rcases hq : (t.text.data.toList == tx.data.toList) with _ | _
    · have e : pasteP [t] tx.data.toList = none := by unfold pasteP; dsimp only; rw [hq]; rfl
      rw [e]
      clear e
      unfold PasteR
      have hne1 : (t.text.toList == tx.toList) = false := by rw [toList_data, toList_data]; exact hq
      clear hq
      go_enter Tryz.func26, Tryz.ntmps26
      go_wp2_with fail
      generalize (((w.alloc (.cells #[.int .i64 ak, .string ax, .bool asp, .bool af, .int .i64 afi, .int .i64 al, .int .i64 ah, .int .i64 an, .slice aa hs.length ac, .slice ca cn cc, .int .i64 am] 43)).alloc (.cells #[.int .i64 bk, .string bx, .bool bsp, .bool bf, .int .i64 bfi, .int .i64 bl, .int .i64 bh, .int .i64 bn, .slice ba bs.length bc, .slice ga gn gc, .int .i64 bm] 43)).alloc (.cells #[.int .i64 0, .string ⟨#[]⟩, .bool false, .bool false, .int .i64 0, .int .i64 0, .int .i64 0, .int .i64 0, .slice none 0 0, .slice none 0 0, .int .i64 0] 43)) = w0 at HBY HB0 HT0 ⊢
      refine HT0.out.mono ?_
      rintro e w1 ⟨ta, tc, rfl, hTA, hb1, hcap⟩
      have hbn := hb1.alloc hb1.size (.cells #[.int .i64 0, .int .i64 f1, .int .i64 f2] 29)
      have HB1 := hid (HB0.out.trans (hbn.mono HB0.out.size))
      have g1 := (hbn.block _ (lt_of_block HBY.out.1)).trans HBY.out.1
      have g2 := (hbn.block _ (lt_of_block HBY.out.2.1)).trans HBY.out.2.1
      have g3 := (hbn.block _ (lt_of_block HBY.out.2.2)).trans HBY.out.2.2
      have gf := heap_alloc_new w1 (.cells #[.int .i64 0, .int .i64 f1, .int .i64 f2] 29)
      rcases hTA with h0 | ⟨b0, off, rfl, hb0, hcx⟩
      · cases h0
      have hbl := (Below.refl _ w1).alloc (Nat.le_refl _) (.cells #[.int .i64 0, .int .i64 f1, .int .i64 f2] 29)
      have t0 := (hbl.cell (p := ⟨b0, off + 0 * 11 + 0, none⟩) hb0).trans (hcx 0 t rfl 0 _ rfl)
      have t1 := (hbl.cell (p := ⟨b0, off + 0 * 11 + 1, none⟩) hb0).trans (hcx 0 t rfl 1 _ rfl)
      simp only [Nat.zero_mul, Nat.add_zero] at t0 t1
      clear hcx hbl hcap hb0
      have HG1 := hid g1
      have HG2 := hid g2
      have HG3 := hid g3
      clear g1 g2 g3 hb1 hbn
      go_wp2_with fail
      generalize w1.alloc (.cells #[.int .i64 0, .int .i64 f1, .int .i64 f2] 29) = w2 at HB1 HG1 HG2 HG3 gf t0 t1 ⊢
      have qf : w2.cell? ⟨w1.heap.size, 0, none⟩ = some (.int .i64 0) := by rw [Go.Joins.cell_of_block gf]; rfl
      have qa : w2.cell? ⟨w.heap.size, 1, none⟩ = some (.string ax) := by rw [Go.Joins.cell_of_block HG1.out]; rfl
      have qb : w2.cell? ⟨w.heap.size + 1, 1, none⟩ = some (.string bx) := by rw [Go.Joins.cell_of_block HG2.out]; rfl
      have QF := Later.cell qf
      have QA := Later.cell qa
      have QB := Later.cell qb
      have T0 := Later.cell t0
      have T1 := Later.cell t1
      clear t0 t1
      have hnn : Nonempty (Later w2) := ⟨⟨_, Below.refl _ _⟩⟩
      clear qf qa qb gf
      refine region_later (by kernel_rfl) (by kernel_rfl) ?_
      repeat (first | go_big_quiet_step (fail) | quiet_step (fail))
      refine wpQuiet_nil ?_
      rintro _ ⟨p, rfl⟩
      have HB3 := hid (HB1.out.trans (p.hb.mono HB1.out.size))
      have HK1 := hid ((p.hb.block _ (lt_of_block HG1.out)).trans HG1.out)
      have HK2 := hid ((p.hb.block _ (lt_of_block HG2.out)).trans HG2.out)
      have HK3 := hid ((p.hb.block _ (lt_of_block HG3.out)).trans HG3.out)
      clear QF QA QB T0 T1 hnn
      generalize p.W = w3 at HB3 HK1 HK2 HK3 ⊢
      obtain ⟨⟨d0, d1, d2, d3, d4, d5, d6, d7, d8, d9, d10⟩, ⟨y0, y1, y2, y3, y4, y5, y6, y7, y8, y9, y10⟩⟩ := tok_block HK3.out
      go_wp2_with fail
      exact bodyPost_ret (rpaste_ret (put_one HK3.out) _ rfl rfl) rfl ⟨rfl, put_one_below (by omega) HB3.out⟩
    · have e : pasteP [t] tx.data.toList = some t := by unfold pasteP; dsimp only; rw [hq]; rfl
      rw [e]
      clear e
      unfold PasteR
      have hne1 : (t.text.toList == tx.toList) = true := by rw [toList_data, toList_data]; exact hq
      clear hq
      go_enter Tryz.func26, Tryz.ntmps26
      go_wp2_with fail
      generalize (((w.alloc (.cells #[.int .i64 ak, .string ax, .bool asp, .bool af, .int .i64 afi, .int .i64 al, .int .i64 ah, .int .i64 an, .slice aa hs.length ac, .slice ca cn cc, .int .i64 am] 43)).alloc (.cells #[.int .i64 bk, .string bx, .bool bsp, .bool bf, .int .i64 bfi, .int .i64 bl, .int .i64 bh, .int .i64 bn, .slice ba bs.length bc, .slice ga gn gc, .int .i64 bm] 43)).alloc (.cells #[.int .i64 0, .string ⟨#[]⟩, .bool false, .bool false, .int .i64 0, .int .i64 0, .int .i64 0, .int .i64 0, .slice none 0 0, .slice none 0 0, .int .i64 0] 43)) = w0 at HBY HB0 HT0 ⊢
      refine HT0.out.mono ?_
      rintro e w1 ⟨ta, tc, rfl, hTA, hb1, hcap⟩
      have hbn := hb1.alloc hb1.size (.cells #[.int .i64 0, .int .i64 f1, .int .i64 f2] 29)
      have HB1 := hid (HB0.out.trans (hbn.mono HB0.out.size))
      have g1 := (hbn.block _ (lt_of_block HBY.out.1)).trans HBY.out.1
      have g2 := (hbn.block _ (lt_of_block HBY.out.2.1)).trans HBY.out.2.1
      have g3 := (hbn.block _ (lt_of_block HBY.out.2.2)).trans HBY.out.2.2
      have gf := heap_alloc_new w1 (.cells #[.int .i64 0, .int .i64 f1, .int .i64 f2] 29)
      rcases hTA with h0 | ⟨b0, off, rfl, hb0, hcx⟩
      · cases h0
      have hbl := (Below.refl _ w1).alloc (Nat.le_refl _) (.cells #[.int .i64 0, .int .i64 f1, .int .i64 f2] 29)
      have t0 := (hbl.cell (p := ⟨b0, off + 0 * 11 + 0, none⟩) hb0).trans (hcx 0 t rfl 0 _ rfl)
      have t1 := (hbl.cell (p := ⟨b0, off + 0 * 11 + 1, none⟩) hb0).trans (hcx 0 t rfl 1 _ rfl)
      simp only [Nat.zero_mul, Nat.add_zero] at t0 t1
      clear hcx hbl hcap hb0
      have HG1 := hid g1
      have HG2 := hid g2
      have HG3 := hid g3
      clear g1 g2 g3 hb1 hbn
      go_wp2_with fail
      generalize w1.alloc (.cells #[.int .i64 0, .int .i64 f1, .int .i64 f2] 29) = w2 at HB1 HG1 HG2 HG3 gf t0 t1 ⊢
      have qf : w2.cell? ⟨w1.heap.size, 0, none⟩ = some (.int .i64 0) := by rw [Go.Joins.cell_of_block gf]; rfl
      have qa : w2.cell? ⟨w.heap.size, 1, none⟩ = some (.string ax) := by rw [Go.Joins.cell_of_block HG1.out]; rfl
      have qb : w2.cell? ⟨w.heap.size + 1, 1, none⟩ = some (.string bx) := by rw [Go.Joins.cell_of_block HG2.out]; rfl
      have QF := Later.cell qf
      have QA := Later.cell qa
      have QB := Later.cell qb
      have T0 := Later.cell t0
      have T1 := Later.cell t1
      clear t0 t1
      have hnn : Nonempty (Later w2) := ⟨⟨_, Below.refl _ _⟩⟩
      clear qf qa qb gf
      refine region_later (by kernel_rfl) (by kernel_rfl) ?_
      repeat (first | go_big_quiet_step (fail) | quiet_step (fail))
      refine wpQuiet_nil ?_
      rintro _ ⟨p, rfl⟩
      have HB3 := hid (HB1.out.trans (p.hb.mono HB1.out.size))
      have HK1 := hid ((p.hb.block _ (lt_of_block HG1.out)).trans HG1.out)
      have HK2 := hid ((p.hb.block _ (lt_of_block HG2.out)).trans HG2.out)
      have HK3 := hid ((p.hb.block _ (lt_of_block HG3.out)).trans HG3.out)
      have tk0 := T0 p
      clear QF QA QB T0 T1 hnn
      generalize p.W = w3 at HB3 HK1 HK2 HK3 tk0 ⊢
      obtain ⟨⟨p0, p1, p2, p3, p4, p5, p6, p7, p8, p9, p10⟩, _⟩ := tok_block HK1.out
      obtain ⟨i0, hi, hz0, hz1, hz2⟩ := info_parts info_str
      obtain ⟨N, hN⟩ : ∃ N, hs.length = N := ⟨_, rfl⟩
      have HN := hid hN
      have HLA := hid hla
      rw [hN] at p8 hla
      have HTK := hid tk0
      go_wp2_with fail
      clear p0 p1 p2 p3 p4 p5 p6 p7 p8 p9 p10 tk0 hN
      go_loopw [8, 44] (fun v x wr => ∃ k : Nat, k ≤ N ∧ x = .int .i64 k ∧ Hid (Below w3.heap.size w3 wr ∧ wr.ownsRow w3.heap.size 9 1 v (hideL (hs.take k) bs).length ((hideL (hs.take k) bs).map Value.string))) (fun _ x _ => N - (intOf x).toNat)
      case atStart => exact ⟨0, Nat.zero_le _, rfl, Below.refl _ _, by simpa [hideL] using World.ownsRow_nil w3 w3.heap.size 9 1⟩
      case round =>
        obtain ⟨k, hk, rfl, HC⟩ := hrel
        have HBw := hid (HB3.out.trans (HC.out.1.mono HB3.out.size))
        have HKB := hid ((HC.out.1.block _ (lt_of_block HK2.out)).trans HK2.out)
        by_cases hlt : k < N
        · obtain ⟨x, hx⟩ : ∃ x, hs[k]? = some x := ⟨_, List.getElem?_eq_getElem (by rw [HN.out]; exact hlt)⟩
          rcases HAA.out with h0 | ⟨bA, oA, rfl, hbA, hcA⟩
          · rw [h0] at hx; cases hx
          have hcx := (HBw.out.cell (p := ⟨bA, oA + k, none⟩) hbA).trans (hcA k x hx)
          have hc8 : wr.cell? ⟨w.heap.size + 1, 8, none⟩ = some (.slice ba bs.length bc) := by rw [Go.Joins.cell_of_block HKB.out]; rfl
          have HSn := hid (hideL_snoc hs bs k x hx)
          have hsl : (hideL (hs.take k) bs).length ≤ k := Nat.le_trans (List.length_filter_le _ _) (by rw [List.length_take]; omega)
          have hki : (k : Int) < (N : Int) := Int.ofNat_lt.2 hlt
          have hk0 : (0 : Int) ≤ (k : Int) := Int.natCast_nonneg _
          have hkp := nxt_k (Nat.le_trans hk (Nat.le_trans hla (by decide)))
          have hkw := nxt_w (Nat.le_trans hk (Nat.le_trans hla (by decide)))
          have HHx := hid (HHs.out x wr HBw.out)
          clear hcA hx hbA
          go_wp2_with fail
          refine HHx.out.mono ?_
          rintro e w4 ⟨rfl, hb4⟩
          have HC4 := hid (And.intro (HC.out.1.trans (hb4.mono HC.out.1.size)) (own_below HC.out.2 hb4))
          clear hb4 hcx hc8 HHx HC HBw HKB
          rcases hct : Lib.containsS bs x with _ | _
          · rw [hct, if_neg (by decide), List.append_nil] at HSn
            go_wp2_with fail
            exact ⟨⟨k + 1, hlt, by go_num, HC4.out.1, by rw [HSn.out]; exact HC4.out.2⟩, less_j hlt (by go_num)⟩
          · rw [hct, if_pos rfl] at HSn
            generalize hideL (hs.take k) bs = ys at HSn HC4 hsl
            go_wp2_with (at_builtin; refine wpList_append_own _ rfl _ _ 22 rfl w3.heap.size 9 i0 _ 1 16 Tryz.underlying22 hi hz0 hz1 hz2 rfl (by decide) _ _ _ rfl (HC4.out.2.alloc _) ⟨w4.heap.size, 0, none⟩ 1 1 [.string x] rfl rfl (one_str w4 x) (fun u hu => by rw [List.mem_singleton] at hu; subst hu; rfl) (by unfold maxLen; omega) (by omega) (by have := HC4.out.1.size; simp; omega) ?_)
            intro v' w' hown' hg' _
            have HB5 := hid (row_grown (HC4.out.2.alloc (.cells #[.string x] 9)) hg' (HC4.out.1.alloc HC4.out.1.size _) (by have := HC4.out.1.size; simp; omega))
            have HO5 := hid hown'
            clear hown' hg'
            go_wp2_with fail
            exact ⟨⟨k + 1, hlt, by go_num, HB5.out, by rw [HSn.out, List.length_append, List.map_append]; exact HO5.out⟩, less_j hlt (by go_num)⟩
        · obtain rfl : k = N := by omega
          rw [List.take_of_length_le (Nat.le_of_eq HN.out)] at HC
          have HKA := hid ((HC.out.1.block _ (lt_of_block HK1.out)).trans HK1.out)
          have HKR := hid ((HC.out.1.block _ (lt_of_block HK3.out)).trans HK3.out)
          obtain ⟨a', c', rfl, hSA⟩ := StAt.of_row HC.out.2
          have HSA := hid (And.intro hSA HC.out.2)
          have htk := (HC.out.1.cell (p := ⟨b0, off, none⟩) (World.block_lt_of_cell? _ _ HTK.out)).trans HTK.out
          obtain ⟨⟨p0, p1, p2, p3, p4, p5, p6, p7, p8, p9, p10⟩, ⟨z0, z1, z2, z3, z4, z5, z6, z7, z8, z9, z10⟩⟩ := tok_block HKA.out
          have qb : wr.cell? ⟨w.heap.size + 1, 1, none⟩ = some (.string bx) := by rw [Go.Joins.cell_of_block HKB.out]; rfl
          have hl1 := lt_of_block HKA.out
          have hl2 := lt_of_block HKR.out
          have hl3 := lt_of_block HKB.out
          have hne12 : w.heap.size ≠ w.heap.size + 1 + 1 := by omega
          have hne13 : w.heap.size + 1 ≠ w.heap.size := by omega
          have hne14 : w.heap.size + 1 + 1 ≠ w.heap.size := by omega
          clear hSA hk hlt
          go_wp2_with fail
          have HD := hid (four_sets HKA.out HKR.out hne14 (.int .i64 t.kind) (.string tx) (.int .i64 1) (.slice a' (hideL hs bs).length c'))
          have HBD := hid ((three_sets_below HBw.out (.int .i64 t.kind) (.string tx) (.int .i64 1)).setCell (p := ⟨w.heap.size, 8, none⟩) (Nat.le_refl _) (.slice a' (hideL hs bs).length c'))
          have HSD := hid (st_four (v0 := .int .i64 t.kind) (v1 := .string tx) (v10 := .int .i64 1) (v8 := .slice a' (hideL hs bs).length c') HSA.out.1 (row_fresh HSA.out.2) (Nat.lt_of_lt_of_le (lt_of_block HK1.out) (Nat.le_refl _)))
          have HFD := hid (row_fresh HSA.out.2)
          go_region
          generalize (((wr.setCell ⟨w.heap.size, 0, none⟩ (.int .i64 t.kind)).setCell ⟨w.heap.size, 1, none⟩ (.string tx)).setCell ⟨w.heap.size, 10, none⟩ (.int .i64 1)).setCell ⟨w.heap.size, 8, none⟩ (.slice a' (hideL hs bs).length c') = wE at HD HBD HSD ⊢
          have HD' : Hid (wE.drew.heap[w.heap.size]? = _ ∧ wE.drew.heap[w.heap.size + 1 + 1]? = _) := HD
          have HBD' : Hid (Below w.heap.size w wE.drew) := HBD.out.drew
          have HSD' : Hid (StAt wE.drew a' (hideL hs bs)) := HSD.out.below (Below.refl _ wE).drew
          generalize wE.drew = wD at HD' HBD' HSD' ⊢
          clear HD HBD HSD p0 p1 p2 p3 p4 p5 p6 p7 p8 p9 p10 z0 z1 z2 z3 z4 z5 z6 z7 z8 z9 z10 htk qb hl1 hl2 hl3
          obtain ⟨⟨p0, p1, p2, p3, p4, p5, p6, p7, p8, p9, p10⟩, _⟩ := tok_block HD'.out.1
          obtain ⟨⟨d0, d1, d2, d3, d4, d5, d6, d7, d8, d9, d10⟩, ⟨y0, y1, y2, y3, y4, y5, y6, y7, y8, y9, y10⟩⟩ := tok_block HD'.out.2
          have hl2 := lt_of_block HD'.out.2
          go_wp2_with fail
          exact bodyPost_ret (rpaste_ret (put_one HD'.out.2) _ rfl rfl) rfl ⟨a', c', rfl, st_one HSD'.out HFD.out (lt_of_block HK3.out), put_one_below (by omega) HBD'.out⟩
  · have hf := HOK.out t (u :: r) rfl
    dsimp only at hf
    subst hf
    show Calls _ _ _ _ (PasteR none _ _ _ _ _ _ _ _ _ _ _ _)
    unfold PasteR
    obtain ⟨N, hN⟩ : ∃ N, (t :: u :: r).length = N := ⟨_, rfl⟩
    have hN1 : ((N : Int) == 1) = false := by rw [beq_eq_false_iff_ne]; rw [← hN]; simp; omega
    have hN2 : ((N : Int) != 1) = true := by rw [bne, hN1]; rfl
    rw [hN] at HT0
    clear hN
    go_enter Tryz.func26, Tryz.ntmps26
    go_wp2_with fail
    generalize (((w.alloc (.cells #[.int .i64 ak, .string ax, .bool asp, .bool af, .int .i64 afi, .int .i64 al, .int .i64 ah, .int .i64 an, .slice aa hs.length ac, .slice ca cn cc, .int .i64 am] 43)).alloc (.cells #[.int .i64 bk, .string bx, .bool bsp, .bool bf, .int .i64 bfi, .int .i64 bl, .int .i64 bh, .int .i64 bn, .slice ba bs.length bc, .slice ga gn gc, .int .i64 bm] 43)).alloc (.cells #[.int .i64 0, .string ⟨#[]⟩, .bool false, .bool false, .int .i64 0, .int .i64 0, .int .i64 0, .int .i64 0, .slice none 0 0, .slice none 0 0, .int .i64 0] 43)) = w0 at HBY HB0 HT0 ⊢
    refine HT0.out.mono ?_
    rintro e w1 ⟨ta, tc, rfl, hTA, hb1, hcap⟩
    have hbn := hb1.alloc hb1.size (.cells #[.int .i64 0, .int .i64 f1, .int .i64 f2] 29)
    have HB1 := hid (HB0.out.trans (hbn.mono HB0.out.size))
    have g1 := (hbn.block _ (lt_of_block HBY.out.1)).trans HBY.out.1
    have g2 := (hbn.block _ (lt_of_block HBY.out.2.1)).trans HBY.out.2.1
    have g3 := (hbn.block _ (lt_of_block HBY.out.2.2)).trans HBY.out.2.2
    have gf := heap_alloc_new w1 (.cells #[.int .i64 0, .int .i64 f1, .int .i64 f2] 29)
    clear hTA hcap
    have HG1 := hid g1
    have HG2 := hid g2
    have HG3 := hid g3
    clear g1 g2 g3 hb1 hbn
    go_wp2_with fail
    generalize w1.alloc (.cells #[.int .i64 0, .int .i64 f1, .int .i64 f2] 29) = w2 at HB1 HG1 HG2 HG3 gf ⊢
    have qf : w2.cell? ⟨w1.heap.size, 0, none⟩ = some (.int .i64 0) := by rw [Go.Joins.cell_of_block gf]; rfl
    have qa : w2.cell? ⟨w.heap.size, 1, none⟩ = some (.string ax) := by rw [Go.Joins.cell_of_block HG1.out]; rfl
    have qb : w2.cell? ⟨w.heap.size + 1, 1, none⟩ = some (.string bx) := by rw [Go.Joins.cell_of_block HG2.out]; rfl
    have QF := Later.cell qf
    have QA := Later.cell qa
    have QB := Later.cell qb
    have hnn : Nonempty (Later w2) := ⟨⟨_, Below.refl _ _⟩⟩
    clear qf qa qb gf
    refine region_later (by kernel_rfl) (by kernel_rfl) ?_
    repeat (first | go_big_quiet_step (fail) | quiet_step (fail))
    refine wpQuiet_nil ?_
    rintro _ ⟨p, rfl⟩
    have HB3 := hid (HB1.out.trans (p.hb.mono HB1.out.size))
    have HK1 := hid ((p.hb.block _ (lt_of_block HG1.out)).trans HG1.out)
    have HK2 := hid ((p.hb.block _ (lt_of_block HG2.out)).trans HG2.out)
    have HK3 := hid ((p.hb.block _ (lt_of_block HG3.out)).trans HG3.out)
    clear QF QA QB hnn
    generalize p.W = w3 at HB3 HK1 HK2 HK3 ⊢
    obtain ⟨⟨d0, d1, d2, d3, d4, d5, d6, d7, d8, d9, d10⟩, ⟨y0, y1, y2, y3, y4, y5, y6, y7, y8, y9, y10⟩⟩ := tok_block HK3.out
    go_wp2_with fail
    exact bodyPost_ret (rpaste_ret (put_one HK3.out) _ rfl rfl) rfl ⟨rfl, put_one_below (by omega) HB3.out⟩
end
section
open Go.RowKit Go.Shelf

set_option maxRecDepth 100000 in
set_option maxHeartbeats 1000000 in
theorem SameTokG (k : Int) (t : ByteArray) (s f : Bool) (fi l h n m : Int) (ha hb : Option Addr) (ca cb : Nat) (hs : List ByteArray) (w : World) (hA : StAt w ha hs) (hB : StAt w hb hs) (hl : hs.length ≤ 1048576) :
    Calls Tryz.prog 22 #[.agg #[.int .i64 k, .string t, .bool s, .bool f, .int .i64 fi, .int .i64 l, .int .i64 h, .int .i64 n, .slice ha hs.length ca, .slice none 0 0, .int .i64 m], .agg #[.int .i64 k, .string t, .bool s, .bool f, .int .i64 fi, .int .i64 l, .int .i64 h, .int .i64 n, .slice hb hs.length cb, .slice none 0 0, .int .i64 m]] w fun e w' => e = .returned (.bool true) ∧ Below w.heap.size w w' := by
  have HBk := hid (two_blocks w (.cells #[.int .i64 k, .string t, .bool s, .bool f, .int .i64 fi, .int .i64 l, .int .i64 h, .int .i64 n, .slice ha hs.length ca, .slice none 0 0, .int .i64 m] 43) (.cells #[.int .i64 k, .string t, .bool s, .bool f, .int .i64 fi, .int .i64 l, .int .i64 h, .int .i64 n, .slice hb hs.length cb, .slice none 0 0, .int .i64 m] 43))
  have hb0 : Below w.heap.size w ((w.alloc (.cells #[.int .i64 k, .string t, .bool s, .bool f, .int .i64 fi, .int .i64 l, .int .i64 h, .int .i64 n, .slice ha hs.length ca, .slice none 0 0, .int .i64 m] 43)).alloc (.cells #[.int .i64 k, .string t, .bool s, .bool f, .int .i64 fi, .int .i64 l, .int .i64 h, .int .i64 n, .slice hb hs.length cb, .slice none 0 0, .int .i64 m] 43)) := ((Below.refl _ w).alloc (Nat.le_refl _) _).alloc (by simp) _
  have HB0 := hid hb0
  have HS := hid (And.intro (hA.below hb0) (hB.below hb0))
  clear hb0 hA hB
  obtain ⟨N, hN⟩ : ∃ N, hs.length = N := ⟨_, rfl⟩
  rw [hN] at hl HBk HB0 HS ⊢
  have HN := hid hN
  clear hN
  go_enter Tryz.func22, Tryz.ntmps22
  go_wp2_with fail
  generalize ((w.alloc (.cells #[.int .i64 k, .string t, .bool s, .bool f, .int .i64 fi, .int .i64 l, .int .i64 h, .int .i64 n, .slice ha N ca, .slice none 0 0, .int .i64 m] 43)).alloc (.cells #[.int .i64 k, .string t, .bool s, .bool f, .int .i64 fi, .int .i64 l, .int .i64 h, .int .i64 n, .slice hb N cb, .slice none 0 0, .int .i64 m] 43)) = w0 at HBk HB0 HS ⊢
  obtain ⟨Bb, hBb⟩ : ∃ Bb, w.heap.size + 1 = Bb := ⟨_, rfl⟩
  rw [hBb] at HBk ⊢
  clear hBb
  go_loopw [89] (fun x wr => ∃ k : Nat, k ≤ N ∧ x = .int .i64 k ∧ Hid (Below w0.heap.size w0 wr)) (fun x _ => N - (intOf x).toNat)
  case atStart => exact ⟨0, Nat.zero_le _, rfl, Below.refl _ _⟩
  case round =>
    obtain ⟨j, hj, rfl, HC⟩ := hrel
    have HBB := hid (HB0.out.trans (HC.out.mono HB0.out.size))
    have g1 := (HC.out.block _ (lt_of_block HBk.out.1)).trans HBk.out.1
    have g2 := (HC.out.block _ (lt_of_block HBk.out.2)).trans HBk.out.2
    have a8 : wr.cell? ⟨w.heap.size, 8, none⟩ = some (.slice ha N ca) := by rw [Go.Joins.cell_of_block g1]; rfl
    have b8 : wr.cell? ⟨Bb, 8, none⟩ = some (.slice hb N cb) := by rw [Go.Joins.cell_of_block g2]; rfl
    have a9 : wr.cell? ⟨w.heap.size, 9, none⟩ = some (.slice none 0 0) := by rw [Go.Joins.cell_of_block g1]; rfl
    clear g1 g2
    by_cases hlt : j < N
    · obtain ⟨x, hx⟩ : ∃ x, hs[j]? = some x := ⟨_, List.getElem?_eq_getElem (by rw [HN.out]; exact hlt)⟩
      rcases HS.out.1 with h0 | ⟨bx, ox, rfl, hbx, hcx⟩
      · rw [h0] at hx; cases hx
      rcases HS.out.2 with h0 | ⟨bY, oy, rfl, hby, hcy⟩
      · rw [h0] at hx; cases hx
      have P1 := Later.cell ((HC.out.cell (p := ⟨bx, ox + j, none⟩) hbx).trans (hcx j x hx))
      have P2 := Later.cell ((HC.out.cell (p := ⟨bY, oy + j, none⟩) hby).trans (hcy j x hx))
      have A8 := Later.cell a8
      have B8 := Later.cell b8
      have hnn : Nonempty (Later wr) := ⟨⟨_, Below.refl _ _⟩⟩
      have hki : (j : Int) < (N : Int) := Int.ofNat_lt.2 hlt
      have hk0 : (0 : Int) ≤ (j : Int) := Int.natCast_nonneg _
      have hkp := nxt_k (Nat.le_trans hj (Nat.le_trans hl (by decide)))
      have hkw := nxt_w (Nat.le_trans hj (Nat.le_trans hl (by decide)))
      clear hcx hcy a8 b8 a9 hx hbx hby
      go_wp2_with fail
      refine region_later (by kernel_rfl) (by kernel_rfl) ?_
      repeat (first | go_big_quiet_step (fail) | quiet_step (fail))
      refine wpQuiet_nil ?_
      rintro _ ⟨r, rfl⟩
      have HC2 := hid (HC.out.trans (r.hb.mono HC.out.size))
      clear P1 P2 A8 B8 hnn
      generalize r.W = w2 at HC2 ⊢
      go_wp2_with fail
      exact ⟨⟨j + 1, hlt, by go_num, HC2.out⟩, less_j hlt (by go_num)⟩
    · obtain rfl : j = N := by omega
      clear hj hlt
      go_wp2_with fail
      go_loop [107] (fun x => x = .int .i64 0) (fun _ => 0)
      case atStart => rfl
      case round =>
        subst hrel
        go_wp2_with fail
        go_ret
        exact ⟨rfl, HBB.out⟩
end
section
open Go.RowKit Go.Shelf

set_option maxRecDepth 100000 in
set_option maxHeartbeats 1000000 in
theorem RUndef_any (a : Option Addr) (c : Nat) (vs : List Mv) (n : ByteArray) (w : World) (hM : MsAt w a vs) (hl : vs.length ≤ 1048575) :
    Calls Tryz.prog 19 #[.slice a vs.length c, .string n] w (DelPost w (stay n.toList vs)) := by
  have HM := hid hM
  clear hM
  obtain ⟨N, hN⟩ : ∃ N, vs.length = N := ⟨_, rfl⟩
  have HN := hid hN
  rw [hN] at hl ⊢
  clear hN
  obtain ⟨i0, hi, hz0, hz1, hz2⟩ := info_parts info_mac
  go_enter Tryz.func19, Tryz.ntmps19
  go_wp2_with fail
  go_loopw [5, 10] (fun v x wr => ∃ k : Nat, k ≤ N ∧ x = .int .i64 k ∧ Hid (Below w.heap.size w wr ∧ wr.ownsRow w.heap.size 26 5 v (stay n.toList (vs.take k)).length (cellsM (stay n.toList (vs.take k))))) (fun _ x _ => N - (intOf x).toNat)
  case atStart => exact ⟨0, Nat.zero_le _, rfl, Below.refl _ _, ⟨by simp [stay, cellsM], .inl ⟨rfl, by simp [stay]⟩⟩⟩
  case round =>
    obtain ⟨k, hk, rfl, HC⟩ := hrel
    by_cases hlt : k < N
    · obtain ⟨x, hx⟩ : ∃ x, vs[k]? = some x := ⟨_, List.getElem?_eq_getElem (by rw [HN.out]; exact hlt)⟩
      rcases HM.out with ⟨h0, _⟩ | ⟨b, off, rfl, hb, hc⟩
      · rw [h0] at hx; cases hx
      have hcx : ∀ (i : Nat) v, (encM x)[i]? = some v → wr.cell? ⟨b, off + k * 5 + i, none⟩ = some v := fun i v hv => (HC.out.1.cell (p := ⟨b, _, none⟩) hb).trans (hc k x hx i v hv)
      have c0 := hcx 0 _ rfl
      have c1 := hcx 1 _ rfl
      have c2 := hcx 2 _ rfl
      have c3 := hcx 3 _ rfl
      have c4 := hcx 4 _ rfl
      simp only [Nat.add_zero] at c0
      have HSn := hid (stay_snoc n.toList vs k x hx)
      have hsl : (stay n.toList (vs.take k)).length ≤ k := Nat.le_trans (List.length_filter_le _ _) (by rw [List.length_take]; omega)
      have HB2 := hid (HC.out.1.alloc HC.out.1.size (.cells #[.string x.name, .bool x.call, .slice x.pa x.pn x.pc, .bool x.more, .slice x.ba x.bn x.bc] 26))
      have HOw := hid (HC.out.2.alloc (.cells #[.string x.name, .bool x.call, .slice x.pa x.pn x.pc, .bool x.more, .slice x.ba x.bn x.bc] 26))
      have hki : (k : Int) < (N : Int) := Int.ofNat_lt.2 hlt
      have hk0 : (0 : Int) ≤ (k : Int) := Int.natCast_nonneg _
      have hkp := nxt_k (Nat.le_trans hk (Nat.le_trans hl (by decide)))
      have hkw := nxt_w (Nat.le_trans hk (Nat.le_trans hl (by decide)))
      clear hc hx hcx hb
      rcases hs : (x.name.toList == n.toList) with _ | _
      · rw [hs, if_neg (by decide)] at HSn
        generalize stay n.toList (vs.take k) = ys at HSn HOw hsl
        go_wp2_with (at_builtin; refine wpList_append_own _ rfl _ _ 23 rfl w.heap.size 26 i0 _ 5 80 Tryz.underlying23 hi hz0 hz1 hz2 rfl (by decide) _ _ _ rfl (HOw.out.alloc _) ⟨wr.heap.size + 1, 0, none⟩ 1 1 (encM x) rfl rfl (by have := five_new (wr.alloc (.cells #[.string x.name, .bool x.call, .slice x.pa x.pn x.pc, .bool x.more, .slice x.ba x.bn x.bc] 26)) x 26; rw [World.size_alloc] at this; exact this) (encM_one x) (by unfold maxLen; omega) (by omega) (by have := HB2.out.size; simp at this ⊢; omega) ?_)
        intro v' w' hown' hg' _
        have HB3 := hid (row_grown (HOw.out.alloc (.cells #[.string x.name, .bool x.call, .slice x.pa x.pn x.pc, .bool x.more, .slice x.ba x.bn x.bc] 26)) hg' (HB2.out.alloc HB2.out.size _) (by have := HB2.out.size; simp at this ⊢; omega))
        have HO3 := hid hown'
        clear hown' hg'
        go_wp2_with fail
        exact ⟨⟨k + 1, hlt, by go_num, HB3.out, by rw [HSn.out, List.length_append, cellsM_append, cellsM_one]; exact HO3.out⟩, less_j hlt (by go_num)⟩
      · rw [hs, if_pos rfl] at HSn
        go_wp2_with fail
        exact ⟨⟨k + 1, hlt, by go_num, HB2.out, by rw [HSn.out]; exact HOw.out⟩, less_j hlt (by go_num)⟩
    · obtain rfl : k = N := by omega
      rw [List.take_of_length_le (Nat.le_of_eq HN.out)] at HC
      obtain ⟨a', c', rfl, hMA⟩ := MsAt.of_row HC.out.2
      go_wp2_with fail
      go_ret
      exact ⟨a', c', rfl, hMA, HC.out.1⟩
end
section
open Go.RowKit Go.Shelf

/-- A text's bytes, as they are quoted. -/
def escP (k : Int) (l : List UInt8) : List UInt8 := if k = 4 ∨ k = 3 then escS l else l
theorem escP_snoc (k : Int) (l : List UInt8) (b : UInt8) : escP k (l ++ [b]) = escP k l ++ (if (k = 4 ∨ k = 3) ∧ (b = 34 ∨ b = 92) then [92, b] else [b]) := by
  unfold escP
  by_cases h : k = 4 ∨ k = 3
  · rw [if_pos h, if_pos h]
    unfold escS
    rw [List.flatMap_append]
    congr 1
    by_cases hb : b = 34 ∨ b = 92
    · rw [if_pos ⟨h, hb⟩]
      rcases hb with rfl | rfl <;> rfl
    · rw [if_neg (fun e => hb e.2)]
      have hb' : b ≠ 34 ∧ b ≠ 92 := ⟨fun e => hb (.inl e), fun e => hb (.inr e)⟩
      simp [hb'.1, hb'.2]
  · rw [if_neg h, if_neg h, if_neg (fun e => h e.1)]
theorem quoteAt_eq {ts : List Tk} {k : Nat} {t : Tk} (h : ts[k]? = some t) : quoteAt ts k = (if decide (0 < k) && t.space then [32] else []) ++ escP t.kind t.text.data.toList := by
  unfold quoteAt escP
  rw [h]
theorem extract_one {s : ByteArray} {j : Nat} {b : UInt8} (h : s.data.toList[j]? = some b) : s.extract j (j + 1) = ⟨#[b]⟩ := by
  obtain ⟨hj, hb⟩ := List.getElem?_eq_some_iff.1 h
  have hj' : j < s.data.size := by simpa using hj
  have hb' : s.data[j] = b := by simpa using hb
  cases s
  rename_i d
  simp only at hj' hb'
  show ByteArray.extract ⟨d⟩ j (j + 1) = _
  apply ByteArray.ext
  rw [ByteArray.data_extract]
  apply Array.ext
  · simp; omega
  · intro i h1 h2
    simp at h2
    subst h2
    simp [hb']
theorem rquote_ret {W : World} {F : Nat} {v0 v1 v2 v3 v4 v5 v6 v7 v8 v9 v10 : Value} (hF : W.heap[F]? = some (.cells #[v0, v1, v2, v3, v4, v5, v6, v7, v8, v9, v10] 43)) (tmps : Array Value) (h4 : tmps.getD 4 undef = .pointer (some ⟨F, 0, none⟩)) :
    (results Tryz.f24 tmps).run Tryz.prog W = .ok (.agg #[v0, v1, v2, v3, v4, v5, v6, v7, v8, v9, v10]) W := by
  obtain ⟨⟨c0, c1, c2, c3, c4, c5, c6, c7, c8, c9, c10⟩, _⟩ := tok_block hF
  simp at h4
  simp [results, Tryz.results24, go_sem, h4, c0, c1, c2, c3, c4, c5, c6, c7, c8, c9, c10]
set_option maxRecDepth 100000 in
set_option maxHeartbeats 1000000 in
theorem RQuote_any (a : Option Addr) (c : Nat) (ts : List Tk) (bk : Int) (bt : ByteArray) (bs bf : Bool) (bfi bl bh bn : Int) (ha : Option Addr) (hn hc : Nat) (ca : Option Addr) (cn cc : Nat) (bm : Int) (w : World) (hT : TAt w a ts) (hl : ts.length ≤ 1048576) (hz : ∀ t ∈ ts, t.text.size ≤ 100000) :
    Calls Tryz.prog 24 #[.slice a ts.length c, .agg #[.int .i64 bk, .string bt, .bool bs, .bool bf, .int .i64 bfi, .int .i64 bl, .int .i64 bh, .int .i64 bn, .slice ha hn hc, .slice ca cn cc, .int .i64 bm]] w fun e w' => e = .returned (.agg #[.int .i64 4, .string ⟨(quoteL ts).toArray⟩, .bool bs, .bool bf, .int .i64 bfi, .int .i64 bl, .int .i64 bh, .int .i64 bn, .slice ha hn hc, .slice ca cn cc, .int .i64 2]) ∧ Below w.heap.size w w' := by
  have hb0 : Below w.heap.size w ((w.alloc (.cells #[.int .i64 bk, .string bt, .bool bs, .bool bf, .int .i64 bfi, .int .i64 bl, .int .i64 bh, .int .i64 bn, .slice ha hn hc, .slice ca cn cc, .int .i64 bm] 43)).alloc (.cells #[.int .i64 0, .string ⟨#[]⟩, .bool false, .bool false, .int .i64 0, .int .i64 0, .int .i64 0, .int .i64 0, .slice none 0 0, .slice none 0 0, .int .i64 0] 43)) := ((Below.refl _ w).alloc (Nat.le_refl _) _).alloc (by simp) _
  have HBW := hid (two_blocks w (.cells #[.int .i64 bk, .string bt, .bool bs, .bool bf, .int .i64 bfi, .int .i64 bl, .int .i64 bh, .int .i64 bn, .slice ha hn hc, .slice ca cn cc, .int .i64 bm] 43) (.cells #[.int .i64 0, .string ⟨#[]⟩, .bool false, .bool false, .int .i64 0, .int .i64 0, .int .i64 0, .int .i64 0, .slice none 0 0, .slice none 0 0, .int .i64 0] 43))
  have HB0 := hid hb0
  have HT := hid (hT.below hb0)
  have HZ := hid hz
  clear hT hz hb0
  obtain ⟨N, hN⟩ : ∃ N, ts.length = N := ⟨_, rfl⟩
  rw [hN] at hl ⊢
  have HN := hid hN
  clear hN
  go_enter Tryz.func24, Tryz.ntmps24
  go_wp2_with fail
  generalize ((w.alloc (.cells #[.int .i64 bk, .string bt, .bool bs, .bool bf, .int .i64 bfi, .int .i64 bl, .int .i64 bh, .int .i64 bn, .slice ha hn hc, .slice ca cn cc, .int .i64 bm] 43)).alloc (.cells #[.int .i64 0, .string ⟨#[]⟩, .bool false, .bool false, .int .i64 0, .int .i64 0, .int .i64 0, .int .i64 0, .slice none 0 0, .slice none 0 0, .int .i64 0] 43)) = w0 at HBW HB0 HT ⊢
  go_loopw [5, 12] (fun sv x wr => ∃ (k : Nat) (S : ByteArray), k ≤ N ∧ sv = .string S ∧ x = .int .i64 k ∧ Hid (Below w0.heap.size w0 wr ∧ S.data.toList = quoteN ts k)) (fun _ x _ => N - (intOf x).toNat)
  case atStart => exact ⟨0, ⟨#[34]⟩, Nat.zero_le _, rfl, rfl, Below.refl _ _, rfl⟩
  case round =>
    obtain ⟨k, S, hk, rfl, rfl, HC⟩ := hrel
    by_cases hlt : k < N
    · obtain ⟨x, hx⟩ : ∃ x, ts[k]? = some x := ⟨_, List.getElem?_eq_getElem (by rw [HN.out]; exact hlt)⟩
      rcases HT.out with h0 | ⟨b0, off, rfl, hb0, hcx⟩
      · rw [h0] at hx; cases hx
      obtain ⟨c0, c1, c2, c3, c4, c5, c6, c7, c8, c9, c10⟩ := tk_cells (w := wr) (fun i v hv => (HC.out.1.cell (p := ⟨b0, off + k * 11 + i, none⟩) hb0).trans (hcx k x hx i v hv))
      have hzx := HZ.out x (List.mem_of_getElem? hx)
      have HQ := hid (quoteN_succ ts k)
      have HA := hid (quoteAt_eq hx)
      have hle := quoteN_le ts 100000 HZ.out k (by rw [HN.out]; exact hk)
      rw [← HC.out.2, size_data] at hle
      have hS : S.size ≤ 1000000000000 := Nat.le_trans hle (by omega)
      have HSz := hid hS
      obtain ⟨tk, tt, tsp, tfi, tf, tl, th, tn⟩ := x
      dsimp only at c0 c1 c2 c3 c4 c5 c6 c7 c8 c9 c10 hzx HA
      have HB2 := hid (HC.out.1.alloc HC.out.1.size (.cells #[.int .i64 tk, .string tt, .bool tsp, .bool tfi, .int .i64 tf, .int .i64 tl, .int .i64 th, .int .i64 tn, .slice none 0 0, .slice none 0 0, .int .i64 0] 43))
      have HXb := hid (heap_alloc_new wr (.cells #[.int .i64 tk, .string tt, .bool tsp, .bool tfi, .int .i64 tf, .int .i64 tl, .int .i64 th, .int .i64 tn, .slice none 0 0, .slice none 0 0, .int .i64 0] 43))
      have hki : (k : Int) < (N : Int) := Int.ofNat_lt.2 hlt
      have hk0 : (0 : Int) ≤ (k : Int) := Int.natCast_nonneg _
      have hkp := nxt_k (Nat.le_trans hk (Nat.le_trans hl (by decide)))
      have hkw := nxt_w (Nat.le_trans hk (Nat.le_trans hl (by decide)))
      have hadd : ∀ W : World, (Op.stringOp .add S ⟨#[32]⟩).run Tryz.prog W = .ok (.string (S ++ ⟨#[32]⟩)) W := fun W => run_string_add_sum W S ⟨#[32]⟩ (by show S.size + 1 ≤ _; omega)
      have HZx := hid hzx
      clear hcx hx hb0 hle hS hzx
      by_cases hgt : 0 < k
      · have hgi : (0 : Int) < (k : Int) := Int.natCast_pos.2 hgt
        rw [decide_eq_true hgt, Bool.true_and] at HA
        cases tsp with
        | true =>
          rw [if_pos rfl] at HA
          have HS1 : Hid ((S ++ ⟨#[32]⟩ : ByteArray).data.toList = quoteN ts k ++ [32]) := by show _ = _; rw [ByteArray.data_append, Array.toList_append, HC.out.2]
          have HSz1 : Hid ((S ++ ⟨#[32]⟩ : ByteArray).size ≤ 1000000000001) := by
            show _ ≤ _
            rw [ByteArray.size_append]
            have := HSz.out
            show S.size + 1 ≤ _
            omega
          have HQ1 : Hid (quoteN ts (k + 1) = (quoteN ts k ++ [32]) ++ escP tk tt.data.toList) := by show _ = _; rw [HQ.out, HA.out, List.append_assoc]
          generalize (S ++ ⟨#[32]⟩ : ByteArray) = S1 at hadd HS1 HSz1
          generalize quoteN ts k ++ [32] = base at HS1 HQ1
          clear HQ HA HSz
          go_wp2_with fail
          generalize hwT : wr.alloc (.cells #[.int .i64 tk, .string tt, .bool true, .bool tfi, .int .i64 tf, .int .i64 tl, .int .i64 th, .int .i64 tn, .slice none 0 0, .slice none 0 0, .int .i64 0] 43) = wT at HB2 HXb ⊢
          have x0 := (tok_block HXb.out).1.1
          have x1 := (tok_block HXb.out).1.2.1
          have hlx := lt_of_block HXb.out
          clear hwT
          obtain ⟨Bt, hBt⟩ : ∃ Bt, wr.heap.size = Bt := ⟨_, rfl⟩
          rw [hBt] at HXb x0 x1 hlx ⊢
          clear HC hadd
          clear hBt c0 c1 c2 c3 c4 c5 c6 c7 c8 c9 c10
          clear wr
          go_loopw [5, 28] (fun sv x wr => ∃ (j : Nat) (R : ByteArray), j ≤ tt.size ∧ sv = .string R ∧ x = .int .i64 j ∧ Hid (Below wT.heap.size wT wr ∧ R.data.toList = base ++ escP tk (tt.data.toList.take j))) (fun _ x _ => tt.size - (intOf x).toNat)
          case atStart => exact ⟨0, S1, Nat.zero_le _, rfl, rfl, Below.refl _ _, by rw [HS1.out]; simp [escP, escS]⟩
          case round =>
            obtain ⟨j, R, hj, rfl, rfl, HR⟩ := hrel
            by_cases hjl : j < tt.size
            · obtain ⟨b, hb⟩ : ∃ b, tt.data.toList[j]? = some b := ⟨_, List.getElem?_eq_getElem (by rw [size_data]; exact hjl)⟩
              obtain ⟨C, hC⟩ : ∃ C, tt.extract j (j + 1) = C := ⟨_, rfl⟩
              have HCv : Hid (C = ⟨#[b]⟩) := hC.symm.trans (extract_one hb)
              have HTake : Hid (tt.data.toList.take (j + 1) = tt.data.toList.take j ++ [b]) := by show _ = _; rw [List.take_add_one, hb]; rfl
              have HRz : Hid (R.size ≤ 1000000500001) := by
                show _ ≤ _
                rw [← size_data, HR.out.2, List.length_append]
                have h1 : (escP tk (tt.data.toList.take j)).length ≤ 4 * 100000 := by
                  have h2 : (tt.data.toList.take j).length ≤ 100000 := by
                    rw [List.length_take, size_data]
                    have := HZx.out
                    omega
                  unfold escP
                  split
                  · have := escS_length (tt.data.toList.take j)
                    omega
                  · omega
                have h3 := HSz1.out
                rw [← size_data, HS1.out] at h3
                omega
              have hji : (j : Int) < (tt.size : Int) := Int.ofNat_lt.2 hjl
              have hj0 : (0 : Int) ≤ (j : Int) := Int.natCast_nonneg _
              have hjb : j ≤ 1048577 := by have := HZx.out; omega
              have hjp := nxt_k hjb
              have hjw := nxt_w hjb
              have hjq : (j : Int) + 1 ≤ (tt.size : Int) := by omega
              have hjr : (j : Int) ≤ (j : Int) + 1 := by omega
              have x0' := (HR.out.1.cell (p := ⟨Bt, 0, none⟩) hlx).trans x0
              have x1' := (HR.out.1.cell (p := ⟨Bt, 1, none⟩) hlx).trans x1
              clear x0 x1 hb hjb
              by_cases hb34 : b = 34
              · have e34 : (C.toList == [34]) = true := by rw [HCv.out, toList_data, hb34]; rfl
                have HQ34 := hid hb34
                clear hb34
                by_cases h4 : tk = 4
                · subst h4
                  have HES : Hid (((4 : Int) = 4 ∨ (4 : Int) = 3) ∧ (b = 34 ∨ b = 92)) := ⟨.inl rfl, .inl HQ34.out⟩
                  have hadd1 : ∀ W : World, (Op.stringOp .add ⟨#[92]⟩ C).run Tryz.prog W = .ok (.string (⟨#[92]⟩ ++ C)) W := fun W => run_string_add_sum W ⟨#[92]⟩ C (by rw [HCv.out]; show 1 + 1 ≤ 9223372036854775807; decide)
                  have HD : Hid ((⟨#[92]⟩ ++ C : ByteArray).data.toList = [92, b] ∧ (⟨#[92]⟩ ++ C : ByteArray).size = 2) := ⟨by rw [HCv.out]; rfl, by rw [HCv.out]; rfl⟩
                  generalize (⟨#[92]⟩ ++ C : ByteArray) = D at hadd1 HD
                  have hadd2 : ∀ W : World, (Op.stringOp .add R D).run Tryz.prog W = .ok (.string (R ++ D)) W := fun W => run_string_add_sum W R D (by have := HRz.out; have := HD.out.2; omega)
                  have HR2 : Hid ((R ++ D : ByteArray).data.toList = base ++ escP 4 (tt.data.toList.take (j + 1))) := by
                    show _ = _
                    rw [ByteArray.data_append, Array.toList_append, HR.out.2, HTake.out, escP_snoc, if_pos HES.out, List.append_assoc, HD.out.1]
                  generalize (R ++ D : ByteArray) = R2 at hadd2 HR2
                  go_wp2_with fail
                  exact ⟨⟨j + 1, R2, hjl, rfl, by go_num, HR.out.1, HR2.out⟩, less_j hjl (by go_num)⟩
                · by_cases h3 : tk = 3
                  · subst h3
                    have HES : Hid (((3 : Int) = 4 ∨ (3 : Int) = 3) ∧ (b = 34 ∨ b = 92)) := ⟨.inr rfl, .inl HQ34.out⟩
                    have hadd1 : ∀ W : World, (Op.stringOp .add ⟨#[92]⟩ C).run Tryz.prog W = .ok (.string (⟨#[92]⟩ ++ C)) W := fun W => run_string_add_sum W ⟨#[92]⟩ C (by rw [HCv.out]; show 1 + 1 ≤ 9223372036854775807; decide)
                    have HD : Hid ((⟨#[92]⟩ ++ C : ByteArray).data.toList = [92, b] ∧ (⟨#[92]⟩ ++ C : ByteArray).size = 2) := ⟨by rw [HCv.out]; rfl, by rw [HCv.out]; rfl⟩
                    generalize (⟨#[92]⟩ ++ C : ByteArray) = D at hadd1 HD
                    have hadd2 : ∀ W : World, (Op.stringOp .add R D).run Tryz.prog W = .ok (.string (R ++ D)) W := fun W => run_string_add_sum W R D (by have := HRz.out; have := HD.out.2; omega)
                    have HR2 : Hid ((R ++ D : ByteArray).data.toList = base ++ escP 3 (tt.data.toList.take (j + 1))) := by
                      show _ = _
                      rw [ByteArray.data_append, Array.toList_append, HR.out.2, HTake.out, escP_snoc, if_pos HES.out, List.append_assoc, HD.out.1]
                    generalize (R ++ D : ByteArray) = R2 at hadd2 HR2
                    go_wp2_with fail
                    exact ⟨⟨j + 1, R2, hjl, rfl, by go_num, HR.out.1, HR2.out⟩, less_j hjl (by go_num)⟩
                  · have e4 : (tk == 4) = false := by simpa using h4
                    have e3 : (tk == 3) = false := by simpa using h3
                    have HES : Hid (¬ ((tk = 4 ∨ tk = 3) ∧ (b = 34 ∨ b = 92))) := fun e => e.1.elim h4 h3
                    have HD : Hid (C.data.toList = [b] ∧ C.size = 1) := ⟨by rw [HCv.out], by rw [HCv.out]; rfl⟩
                    have hadd2 : ∀ W : World, (Op.stringOp .add R C).run Tryz.prog W = .ok (.string (R ++ C)) W := fun W => run_string_add_sum W R C (by have := HRz.out; have := HD.out.2; omega)
                    have HR2 : Hid ((R ++ C : ByteArray).data.toList = base ++ escP tk (tt.data.toList.take (j + 1))) := by
                      show _ = _
                      rw [ByteArray.data_append, Array.toList_append, HR.out.2, HTake.out, escP_snoc, if_neg HES.out, List.append_assoc, HD.out.1]
                    generalize (R ++ C : ByteArray) = R2 at hadd2 HR2
                    go_wp2_with fail
                    exact ⟨⟨j + 1, R2, hjl, rfl, by go_num, HR.out.1, HR2.out⟩, less_j hjl (by go_num)⟩
              · have e34 : (C.toList == [34]) = false := by rw [HCv.out, toList_data]; simpa using hb34
                have HQ34 := hid hb34
                clear hb34
                by_cases hb92 : b = 92
                · have e92 : (C.toList == [92]) = true := by rw [HCv.out, toList_data, hb92]; rfl
                  have HQ92 := hid hb92
                  clear hb92
                  by_cases h4 : tk = 4
                  · subst h4
                    have HES : Hid (((4 : Int) = 4 ∨ (4 : Int) = 3) ∧ (b = 34 ∨ b = 92)) := ⟨.inl rfl, .inr HQ92.out⟩
                    have hadd1 : ∀ W : World, (Op.stringOp .add ⟨#[92]⟩ C).run Tryz.prog W = .ok (.string (⟨#[92]⟩ ++ C)) W := fun W => run_string_add_sum W ⟨#[92]⟩ C (by rw [HCv.out]; show 1 + 1 ≤ 9223372036854775807; decide)
                    have HD : Hid ((⟨#[92]⟩ ++ C : ByteArray).data.toList = [92, b] ∧ (⟨#[92]⟩ ++ C : ByteArray).size = 2) := ⟨by rw [HCv.out]; rfl, by rw [HCv.out]; rfl⟩
                    generalize (⟨#[92]⟩ ++ C : ByteArray) = D at hadd1 HD
                    have hadd2 : ∀ W : World, (Op.stringOp .add R D).run Tryz.prog W = .ok (.string (R ++ D)) W := fun W => run_string_add_sum W R D (by have := HRz.out; have := HD.out.2; omega)
                    have HR2 : Hid ((R ++ D : ByteArray).data.toList = base ++ escP 4 (tt.data.toList.take (j + 1))) := by
                      show _ = _
                      rw [ByteArray.data_append, Array.toList_append, HR.out.2, HTake.out, escP_snoc, if_pos HES.out, List.append_assoc, HD.out.1]
                    generalize (R ++ D : ByteArray) = R2 at hadd2 HR2
                    go_wp2_with fail
                    exact ⟨⟨j + 1, R2, hjl, rfl, by go_num, HR.out.1, HR2.out⟩, less_j hjl (by go_num)⟩
                  · by_cases h3 : tk = 3
                    · subst h3
                      have HES : Hid (((3 : Int) = 4 ∨ (3 : Int) = 3) ∧ (b = 34 ∨ b = 92)) := ⟨.inr rfl, .inr HQ92.out⟩
                      have hadd1 : ∀ W : World, (Op.stringOp .add ⟨#[92]⟩ C).run Tryz.prog W = .ok (.string (⟨#[92]⟩ ++ C)) W := fun W => run_string_add_sum W ⟨#[92]⟩ C (by rw [HCv.out]; show 1 + 1 ≤ 9223372036854775807; decide)
                      have HD : Hid ((⟨#[92]⟩ ++ C : ByteArray).data.toList = [92, b] ∧ (⟨#[92]⟩ ++ C : ByteArray).size = 2) := ⟨by rw [HCv.out]; rfl, by rw [HCv.out]; rfl⟩
                      generalize (⟨#[92]⟩ ++ C : ByteArray) = D at hadd1 HD
                      have hadd2 : ∀ W : World, (Op.stringOp .add R D).run Tryz.prog W = .ok (.string (R ++ D)) W := fun W => run_string_add_sum W R D (by have := HRz.out; have := HD.out.2; omega)
                      have HR2 : Hid ((R ++ D : ByteArray).data.toList = base ++ escP 3 (tt.data.toList.take (j + 1))) := by
                        show _ = _
                        rw [ByteArray.data_append, Array.toList_append, HR.out.2, HTake.out, escP_snoc, if_pos HES.out, List.append_assoc, HD.out.1]
                      generalize (R ++ D : ByteArray) = R2 at hadd2 HR2
                      go_wp2_with fail
                      exact ⟨⟨j + 1, R2, hjl, rfl, by go_num, HR.out.1, HR2.out⟩, less_j hjl (by go_num)⟩
                    · have e4 : (tk == 4) = false := by simpa using h4
                      have e3 : (tk == 3) = false := by simpa using h3
                      have HES : Hid (¬ ((tk = 4 ∨ tk = 3) ∧ (b = 34 ∨ b = 92))) := fun e => e.1.elim h4 h3
                      have HD : Hid (C.data.toList = [b] ∧ C.size = 1) := ⟨by rw [HCv.out], by rw [HCv.out]; rfl⟩
                      have hadd2 : ∀ W : World, (Op.stringOp .add R C).run Tryz.prog W = .ok (.string (R ++ C)) W := fun W => run_string_add_sum W R C (by have := HRz.out; have := HD.out.2; omega)
                      have HR2 : Hid ((R ++ C : ByteArray).data.toList = base ++ escP tk (tt.data.toList.take (j + 1))) := by
                        show _ = _
                        rw [ByteArray.data_append, Array.toList_append, HR.out.2, HTake.out, escP_snoc, if_neg HES.out, List.append_assoc, HD.out.1]
                      generalize (R ++ C : ByteArray) = R2 at hadd2 HR2
                      go_wp2_with fail
                      exact ⟨⟨j + 1, R2, hjl, rfl, by go_num, HR.out.1, HR2.out⟩, less_j hjl (by go_num)⟩
                · have e92 : (C.toList == [92]) = false := by rw [HCv.out, toList_data]; simpa using hb92
                  have HQ92 := hid hb92
                  clear hb92
                  have HES : Hid (¬ ((tk = 4 ∨ tk = 3) ∧ (b = 34 ∨ b = 92))) := fun e => e.2.elim HQ34.out HQ92.out
                  have HD : Hid (C.data.toList = [b] ∧ C.size = 1) := ⟨by rw [HCv.out], by rw [HCv.out]; rfl⟩
                  have hadd2 : ∀ W : World, (Op.stringOp .add R C).run Tryz.prog W = .ok (.string (R ++ C)) W := fun W => run_string_add_sum W R C (by have := HRz.out; have := HD.out.2; omega)
                  have HR2 : Hid ((R ++ C : ByteArray).data.toList = base ++ escP tk (tt.data.toList.take (j + 1))) := by
                    show _ = _
                    rw [ByteArray.data_append, Array.toList_append, HR.out.2, HTake.out, escP_snoc, if_neg HES.out, List.append_assoc, HD.out.1]
                  generalize (R ++ C : ByteArray) = R2 at hadd2 HR2
                  go_wp2_with fail
                  exact ⟨⟨j + 1, R2, hjl, rfl, by go_num, HR.out.1, HR2.out⟩, less_j hjl (by go_num)⟩
            · obtain rfl : j = tt.size := by omega
              have HF : Hid (R.data.toList = quoteN ts (k + 1)) := by show _ = _; rw [HR.out.2, HQ1.out, List.take_of_length_le (Nat.le_of_eq (size_data tt))]
              go_wp2_with fail
              exact ⟨⟨k + 1, R, hlt, rfl, by go_num, HB2.out.trans (HR.out.1.mono HB2.out.size), HF.out⟩, less_j hlt (by go_num)⟩
        | false =>
          rw [if_neg (by decide), List.nil_append] at HA
          have HS1 : Hid (S.data.toList = quoteN ts k) := HC.out.2
          have HSz1 : Hid (S.size ≤ 1000000000001) := Nat.le_trans HSz.out (by decide)
          have HQ1 : Hid (quoteN ts (k + 1) = quoteN ts k ++ escP tk tt.data.toList) := by show _ = _; rw [HQ.out, HA.out]
          have HC1 := hid HC.out.1
          generalize quoteN ts k = base at HS1 HQ1
          clear HQ HA HSz HC hadd
          go_wp2_with fail
          generalize hwT : wr.alloc (.cells #[.int .i64 tk, .string tt, .bool false, .bool tfi, .int .i64 tf, .int .i64 tl, .int .i64 th, .int .i64 tn, .slice none 0 0, .slice none 0 0, .int .i64 0] 43) = wT at HB2 HXb ⊢
          have x0 := (tok_block HXb.out).1.1
          have x1 := (tok_block HXb.out).1.2.1
          have hlx := lt_of_block HXb.out
          clear hwT
          obtain ⟨Bt, hBt⟩ : ∃ Bt, wr.heap.size = Bt := ⟨_, rfl⟩
          rw [hBt] at HXb x0 x1 hlx ⊢
          clear HC1
          clear hBt c0 c1 c2 c3 c4 c5 c6 c7 c8 c9 c10
          clear wr
          go_loopw [5, 28] (fun sv x wr => ∃ (j : Nat) (R : ByteArray), j ≤ tt.size ∧ sv = .string R ∧ x = .int .i64 j ∧ Hid (Below wT.heap.size wT wr ∧ R.data.toList = base ++ escP tk (tt.data.toList.take j))) (fun _ x _ => tt.size - (intOf x).toNat)
          case atStart => exact ⟨0, S, Nat.zero_le _, rfl, rfl, Below.refl _ _, by rw [HS1.out]; simp [escP, escS]⟩
          case round =>
            obtain ⟨j, R, hj, rfl, rfl, HR⟩ := hrel
            by_cases hjl : j < tt.size
            · obtain ⟨b, hb⟩ : ∃ b, tt.data.toList[j]? = some b := ⟨_, List.getElem?_eq_getElem (by rw [size_data]; exact hjl)⟩
              obtain ⟨C, hC⟩ : ∃ C, tt.extract j (j + 1) = C := ⟨_, rfl⟩
              have HCv : Hid (C = ⟨#[b]⟩) := hC.symm.trans (extract_one hb)
              have HTake : Hid (tt.data.toList.take (j + 1) = tt.data.toList.take j ++ [b]) := by show _ = _; rw [List.take_add_one, hb]; rfl
              have HRz : Hid (R.size ≤ 1000000500001) := by
                show _ ≤ _
                rw [← size_data, HR.out.2, List.length_append]
                have h1 : (escP tk (tt.data.toList.take j)).length ≤ 4 * 100000 := by
                  have h2 : (tt.data.toList.take j).length ≤ 100000 := by
                    rw [List.length_take, size_data]
                    have := HZx.out
                    omega
                  unfold escP
                  split
                  · have := escS_length (tt.data.toList.take j)
                    omega
                  · omega
                have h3 := HSz1.out
                rw [← size_data, HS1.out] at h3
                omega
              have hji : (j : Int) < (tt.size : Int) := Int.ofNat_lt.2 hjl
              have hj0 : (0 : Int) ≤ (j : Int) := Int.natCast_nonneg _
              have hjb : j ≤ 1048577 := by have := HZx.out; omega
              have hjp := nxt_k hjb
              have hjw := nxt_w hjb
              have hjq : (j : Int) + 1 ≤ (tt.size : Int) := by omega
              have hjr : (j : Int) ≤ (j : Int) + 1 := by omega
              have x0' := (HR.out.1.cell (p := ⟨Bt, 0, none⟩) hlx).trans x0
              have x1' := (HR.out.1.cell (p := ⟨Bt, 1, none⟩) hlx).trans x1
              clear x0 x1 hb hjb
              by_cases hb34 : b = 34
              · have e34 : (C.toList == [34]) = true := by rw [HCv.out, toList_data, hb34]; rfl
                have HQ34 := hid hb34
                clear hb34
                by_cases h4 : tk = 4
                · subst h4
                  have HES : Hid (((4 : Int) = 4 ∨ (4 : Int) = 3) ∧ (b = 34 ∨ b = 92)) := ⟨.inl rfl, .inl HQ34.out⟩
                  have hadd1 : ∀ W : World, (Op.stringOp .add ⟨#[92]⟩ C).run Tryz.prog W = .ok (.string (⟨#[92]⟩ ++ C)) W := fun W => run_string_add_sum W ⟨#[92]⟩ C (by rw [HCv.out]; show 1 + 1 ≤ 9223372036854775807; decide)
                  have HD : Hid ((⟨#[92]⟩ ++ C : ByteArray).data.toList = [92, b] ∧ (⟨#[92]⟩ ++ C : ByteArray).size = 2) := ⟨by rw [HCv.out]; rfl, by rw [HCv.out]; rfl⟩
                  generalize (⟨#[92]⟩ ++ C : ByteArray) = D at hadd1 HD
                  have hadd2 : ∀ W : World, (Op.stringOp .add R D).run Tryz.prog W = .ok (.string (R ++ D)) W := fun W => run_string_add_sum W R D (by have := HRz.out; have := HD.out.2; omega)
                  have HR2 : Hid ((R ++ D : ByteArray).data.toList = base ++ escP 4 (tt.data.toList.take (j + 1))) := by
                    show _ = _
                    rw [ByteArray.data_append, Array.toList_append, HR.out.2, HTake.out, escP_snoc, if_pos HES.out, List.append_assoc, HD.out.1]
                  generalize (R ++ D : ByteArray) = R2 at hadd2 HR2
                  go_wp2_with fail
                  exact ⟨⟨j + 1, R2, hjl, rfl, by go_num, HR.out.1, HR2.out⟩, less_j hjl (by go_num)⟩
                · by_cases h3 : tk = 3
                  · subst h3
                    have HES : Hid (((3 : Int) = 4 ∨ (3 : Int) = 3) ∧ (b = 34 ∨ b = 92)) := ⟨.inr rfl, .inl HQ34.out⟩
                    have hadd1 : ∀ W : World, (Op.stringOp .add ⟨#[92]⟩ C).run Tryz.prog W = .ok (.string (⟨#[92]⟩ ++ C)) W := fun W => run_string_add_sum W ⟨#[92]⟩ C (by rw [HCv.out]; show 1 + 1 ≤ 9223372036854775807; decide)
                    have HD : Hid ((⟨#[92]⟩ ++ C : ByteArray).data.toList = [92, b] ∧ (⟨#[92]⟩ ++ C : ByteArray).size = 2) := ⟨by rw [HCv.out]; rfl, by rw [HCv.out]; rfl⟩
                    generalize (⟨#[92]⟩ ++ C : ByteArray) = D at hadd1 HD
                    have hadd2 : ∀ W : World, (Op.stringOp .add R D).run Tryz.prog W = .ok (.string (R ++ D)) W := fun W => run_string_add_sum W R D (by have := HRz.out; have := HD.out.2; omega)
                    have HR2 : Hid ((R ++ D : ByteArray).data.toList = base ++ escP 3 (tt.data.toList.take (j + 1))) := by
                      show _ = _
                      rw [ByteArray.data_append, Array.toList_append, HR.out.2, HTake.out, escP_snoc, if_pos HES.out, List.append_assoc, HD.out.1]
                    generalize (R ++ D : ByteArray) = R2 at hadd2 HR2
                    go_wp2_with fail
                    exact ⟨⟨j + 1, R2, hjl, rfl, by go_num, HR.out.1, HR2.out⟩, less_j hjl (by go_num)⟩
                  · have e4 : (tk == 4) = false := by simpa using h4
                    have e3 : (tk == 3) = false := by simpa using h3
                    have HES : Hid (¬ ((tk = 4 ∨ tk = 3) ∧ (b = 34 ∨ b = 92))) := fun e => e.1.elim h4 h3
                    have HD : Hid (C.data.toList = [b] ∧ C.size = 1) := ⟨by rw [HCv.out], by rw [HCv.out]; rfl⟩
                    have hadd2 : ∀ W : World, (Op.stringOp .add R C).run Tryz.prog W = .ok (.string (R ++ C)) W := fun W => run_string_add_sum W R C (by have := HRz.out; have := HD.out.2; omega)
                    have HR2 : Hid ((R ++ C : ByteArray).data.toList = base ++ escP tk (tt.data.toList.take (j + 1))) := by
                      show _ = _
                      rw [ByteArray.data_append, Array.toList_append, HR.out.2, HTake.out, escP_snoc, if_neg HES.out, List.append_assoc, HD.out.1]
                    generalize (R ++ C : ByteArray) = R2 at hadd2 HR2
                    go_wp2_with fail
                    exact ⟨⟨j + 1, R2, hjl, rfl, by go_num, HR.out.1, HR2.out⟩, less_j hjl (by go_num)⟩
              · have e34 : (C.toList == [34]) = false := by rw [HCv.out, toList_data]; simpa using hb34
                have HQ34 := hid hb34
                clear hb34
                by_cases hb92 : b = 92
                · have e92 : (C.toList == [92]) = true := by rw [HCv.out, toList_data, hb92]; rfl
                  have HQ92 := hid hb92
                  clear hb92
                  by_cases h4 : tk = 4
                  · subst h4
                    have HES : Hid (((4 : Int) = 4 ∨ (4 : Int) = 3) ∧ (b = 34 ∨ b = 92)) := ⟨.inl rfl, .inr HQ92.out⟩
                    have hadd1 : ∀ W : World, (Op.stringOp .add ⟨#[92]⟩ C).run Tryz.prog W = .ok (.string (⟨#[92]⟩ ++ C)) W := fun W => run_string_add_sum W ⟨#[92]⟩ C (by rw [HCv.out]; show 1 + 1 ≤ 9223372036854775807; decide)
                    have HD : Hid ((⟨#[92]⟩ ++ C : ByteArray).data.toList = [92, b] ∧ (⟨#[92]⟩ ++ C : ByteArray).size = 2) := ⟨by rw [HCv.out]; rfl, by rw [HCv.out]; rfl⟩
                    generalize (⟨#[92]⟩ ++ C : ByteArray) = D at hadd1 HD
                    have hadd2 : ∀ W : World, (Op.stringOp .add R D).run Tryz.prog W = .ok (.string (R ++ D)) W := fun W => run_string_add_sum W R D (by have := HRz.out; have := HD.out.2; omega)
                    have HR2 : Hid ((R ++ D : ByteArray).data.toList = base ++ escP 4 (tt.data.toList.take (j + 1))) := by
                      show _ = _
                      rw [ByteArray.data_append, Array.toList_append, HR.out.2, HTake.out, escP_snoc, if_pos HES.out, List.append_assoc, HD.out.1]
                    generalize (R ++ D : ByteArray) = R2 at hadd2 HR2
                    go_wp2_with fail
                    exact ⟨⟨j + 1, R2, hjl, rfl, by go_num, HR.out.1, HR2.out⟩, less_j hjl (by go_num)⟩
                  · by_cases h3 : tk = 3
                    · subst h3
                      have HES : Hid (((3 : Int) = 4 ∨ (3 : Int) = 3) ∧ (b = 34 ∨ b = 92)) := ⟨.inr rfl, .inr HQ92.out⟩
                      have hadd1 : ∀ W : World, (Op.stringOp .add ⟨#[92]⟩ C).run Tryz.prog W = .ok (.string (⟨#[92]⟩ ++ C)) W := fun W => run_string_add_sum W ⟨#[92]⟩ C (by rw [HCv.out]; show 1 + 1 ≤ 9223372036854775807; decide)
                      have HD : Hid ((⟨#[92]⟩ ++ C : ByteArray).data.toList = [92, b] ∧ (⟨#[92]⟩ ++ C : ByteArray).size = 2) := ⟨by rw [HCv.out]; rfl, by rw [HCv.out]; rfl⟩
                      generalize (⟨#[92]⟩ ++ C : ByteArray) = D at hadd1 HD
                      have hadd2 : ∀ W : World, (Op.stringOp .add R D).run Tryz.prog W = .ok (.string (R ++ D)) W := fun W => run_string_add_sum W R D (by have := HRz.out; have := HD.out.2; omega)
                      have HR2 : Hid ((R ++ D : ByteArray).data.toList = base ++ escP 3 (tt.data.toList.take (j + 1))) := by
                        show _ = _
                        rw [ByteArray.data_append, Array.toList_append, HR.out.2, HTake.out, escP_snoc, if_pos HES.out, List.append_assoc, HD.out.1]
                      generalize (R ++ D : ByteArray) = R2 at hadd2 HR2
                      go_wp2_with fail
                      exact ⟨⟨j + 1, R2, hjl, rfl, by go_num, HR.out.1, HR2.out⟩, less_j hjl (by go_num)⟩
                    · have e4 : (tk == 4) = false := by simpa using h4
                      have e3 : (tk == 3) = false := by simpa using h3
                      have HES : Hid (¬ ((tk = 4 ∨ tk = 3) ∧ (b = 34 ∨ b = 92))) := fun e => e.1.elim h4 h3
                      have HD : Hid (C.data.toList = [b] ∧ C.size = 1) := ⟨by rw [HCv.out], by rw [HCv.out]; rfl⟩
                      have hadd2 : ∀ W : World, (Op.stringOp .add R C).run Tryz.prog W = .ok (.string (R ++ C)) W := fun W => run_string_add_sum W R C (by have := HRz.out; have := HD.out.2; omega)
                      have HR2 : Hid ((R ++ C : ByteArray).data.toList = base ++ escP tk (tt.data.toList.take (j + 1))) := by
                        show _ = _
                        rw [ByteArray.data_append, Array.toList_append, HR.out.2, HTake.out, escP_snoc, if_neg HES.out, List.append_assoc, HD.out.1]
                      generalize (R ++ C : ByteArray) = R2 at hadd2 HR2
                      go_wp2_with fail
                      exact ⟨⟨j + 1, R2, hjl, rfl, by go_num, HR.out.1, HR2.out⟩, less_j hjl (by go_num)⟩
                · have e92 : (C.toList == [92]) = false := by rw [HCv.out, toList_data]; simpa using hb92
                  have HQ92 := hid hb92
                  clear hb92
                  have HES : Hid (¬ ((tk = 4 ∨ tk = 3) ∧ (b = 34 ∨ b = 92))) := fun e => e.2.elim HQ34.out HQ92.out
                  have HD : Hid (C.data.toList = [b] ∧ C.size = 1) := ⟨by rw [HCv.out], by rw [HCv.out]; rfl⟩
                  have hadd2 : ∀ W : World, (Op.stringOp .add R C).run Tryz.prog W = .ok (.string (R ++ C)) W := fun W => run_string_add_sum W R C (by have := HRz.out; have := HD.out.2; omega)
                  have HR2 : Hid ((R ++ C : ByteArray).data.toList = base ++ escP tk (tt.data.toList.take (j + 1))) := by
                    show _ = _
                    rw [ByteArray.data_append, Array.toList_append, HR.out.2, HTake.out, escP_snoc, if_neg HES.out, List.append_assoc, HD.out.1]
                  generalize (R ++ C : ByteArray) = R2 at hadd2 HR2
                  go_wp2_with fail
                  exact ⟨⟨j + 1, R2, hjl, rfl, by go_num, HR.out.1, HR2.out⟩, less_j hjl (by go_num)⟩
            · obtain rfl : j = tt.size := by omega
              have HF : Hid (R.data.toList = quoteN ts (k + 1)) := by show _ = _; rw [HR.out.2, HQ1.out, List.take_of_length_le (Nat.le_of_eq (size_data tt))]
              go_wp2_with fail
              exact ⟨⟨k + 1, R, hlt, rfl, by go_num, HB2.out.trans (HR.out.1.mono HB2.out.size), HF.out⟩, less_j hlt (by go_num)⟩
      · have hgi : ¬ ((0 : Int) < (k : Int)) := by omega
        rw [decide_eq_false hgt, Bool.false_and, if_neg (by decide), List.nil_append] at HA
        have HS1 : Hid (S.data.toList = quoteN ts k) := HC.out.2
        have HSz1 : Hid (S.size ≤ 1000000000001) := Nat.le_trans HSz.out (by decide)
        have HQ1 : Hid (quoteN ts (k + 1) = quoteN ts k ++ escP tk tt.data.toList) := by show _ = _; rw [HQ.out, HA.out]
        generalize quoteN ts k = base at HS1 HQ1
        clear HQ HA HSz hadd
        go_wp2_with fail
        generalize hwT : wr.alloc (.cells #[.int .i64 tk, .string tt, .bool tsp, .bool tfi, .int .i64 tf, .int .i64 tl, .int .i64 th, .int .i64 tn, .slice none 0 0, .slice none 0 0, .int .i64 0] 43) = wT at HB2 HXb ⊢
        have x0 := (tok_block HXb.out).1.1
        have x1 := (tok_block HXb.out).1.2.1
        have hlx := lt_of_block HXb.out
        clear hwT
        obtain ⟨Bt, hBt⟩ : ∃ Bt, wr.heap.size = Bt := ⟨_, rfl⟩
        rw [hBt] at HXb x0 x1 hlx ⊢
        clear HC
        clear hBt c0 c1 c2 c3 c4 c5 c6 c7 c8 c9 c10
        clear wr
        go_loopw [5, 28] (fun sv x wr => ∃ (j : Nat) (R : ByteArray), j ≤ tt.size ∧ sv = .string R ∧ x = .int .i64 j ∧ Hid (Below wT.heap.size wT wr ∧ R.data.toList = base ++ escP tk (tt.data.toList.take j))) (fun _ x _ => tt.size - (intOf x).toNat)
        case atStart => exact ⟨0, S, Nat.zero_le _, rfl, rfl, Below.refl _ _, by rw [HS1.out]; simp [escP, escS]⟩
        case round =>
          obtain ⟨j, R, hj, rfl, rfl, HR⟩ := hrel
          by_cases hjl : j < tt.size
          · obtain ⟨b, hb⟩ : ∃ b, tt.data.toList[j]? = some b := ⟨_, List.getElem?_eq_getElem (by rw [size_data]; exact hjl)⟩
            obtain ⟨C, hC⟩ : ∃ C, tt.extract j (j + 1) = C := ⟨_, rfl⟩
            have HCv : Hid (C = ⟨#[b]⟩) := hC.symm.trans (extract_one hb)
            have HTake : Hid (tt.data.toList.take (j + 1) = tt.data.toList.take j ++ [b]) := by show _ = _; rw [List.take_add_one, hb]; rfl
            have HRz : Hid (R.size ≤ 1000000500001) := by
              show _ ≤ _
              rw [← size_data, HR.out.2, List.length_append]
              have h1 : (escP tk (tt.data.toList.take j)).length ≤ 4 * 100000 := by
                have h2 : (tt.data.toList.take j).length ≤ 100000 := by
                  rw [List.length_take, size_data]
                  have := HZx.out
                  omega
                unfold escP
                split
                · have := escS_length (tt.data.toList.take j)
                  omega
                · omega
              have h3 := HSz1.out
              rw [← size_data, HS1.out] at h3
              omega
            have hji : (j : Int) < (tt.size : Int) := Int.ofNat_lt.2 hjl
            have hj0 : (0 : Int) ≤ (j : Int) := Int.natCast_nonneg _
            have hjb : j ≤ 1048577 := by have := HZx.out; omega
            have hjp := nxt_k hjb
            have hjw := nxt_w hjb
            have hjq : (j : Int) + 1 ≤ (tt.size : Int) := by omega
            have hjr : (j : Int) ≤ (j : Int) + 1 := by omega
            have x0' := (HR.out.1.cell (p := ⟨Bt, 0, none⟩) hlx).trans x0
            have x1' := (HR.out.1.cell (p := ⟨Bt, 1, none⟩) hlx).trans x1
            clear x0 x1 hb hjb
            by_cases hb34 : b = 34
            · have e34 : (C.toList == [34]) = true := by rw [HCv.out, toList_data, hb34]; rfl
              have HQ34 := hid hb34
              clear hb34
              by_cases h4 : tk = 4
              · subst h4
                have HES : Hid (((4 : Int) = 4 ∨ (4 : Int) = 3) ∧ (b = 34 ∨ b = 92)) := ⟨.inl rfl, .inl HQ34.out⟩
                have hadd1 : ∀ W : World, (Op.stringOp .add ⟨#[92]⟩ C).run Tryz.prog W = .ok (.string (⟨#[92]⟩ ++ C)) W := fun W => run_string_add_sum W ⟨#[92]⟩ C (by rw [HCv.out]; show 1 + 1 ≤ 9223372036854775807; decide)
                have HD : Hid ((⟨#[92]⟩ ++ C : ByteArray).data.toList = [92, b] ∧ (⟨#[92]⟩ ++ C : ByteArray).size = 2) := ⟨by rw [HCv.out]; rfl, by rw [HCv.out]; rfl⟩
                generalize (⟨#[92]⟩ ++ C : ByteArray) = D at hadd1 HD
                have hadd2 : ∀ W : World, (Op.stringOp .add R D).run Tryz.prog W = .ok (.string (R ++ D)) W := fun W => run_string_add_sum W R D (by have := HRz.out; have := HD.out.2; omega)
                have HR2 : Hid ((R ++ D : ByteArray).data.toList = base ++ escP 4 (tt.data.toList.take (j + 1))) := by
                  show _ = _
                  rw [ByteArray.data_append, Array.toList_append, HR.out.2, HTake.out, escP_snoc, if_pos HES.out, List.append_assoc, HD.out.1]
                generalize (R ++ D : ByteArray) = R2 at hadd2 HR2
                go_wp2_with fail
                exact ⟨⟨j + 1, R2, hjl, rfl, by go_num, HR.out.1, HR2.out⟩, less_j hjl (by go_num)⟩
              · by_cases h3 : tk = 3
                · subst h3
                  have HES : Hid (((3 : Int) = 4 ∨ (3 : Int) = 3) ∧ (b = 34 ∨ b = 92)) := ⟨.inr rfl, .inl HQ34.out⟩
                  have hadd1 : ∀ W : World, (Op.stringOp .add ⟨#[92]⟩ C).run Tryz.prog W = .ok (.string (⟨#[92]⟩ ++ C)) W := fun W => run_string_add_sum W ⟨#[92]⟩ C (by rw [HCv.out]; show 1 + 1 ≤ 9223372036854775807; decide)
                  have HD : Hid ((⟨#[92]⟩ ++ C : ByteArray).data.toList = [92, b] ∧ (⟨#[92]⟩ ++ C : ByteArray).size = 2) := ⟨by rw [HCv.out]; rfl, by rw [HCv.out]; rfl⟩
                  generalize (⟨#[92]⟩ ++ C : ByteArray) = D at hadd1 HD
                  have hadd2 : ∀ W : World, (Op.stringOp .add R D).run Tryz.prog W = .ok (.string (R ++ D)) W := fun W => run_string_add_sum W R D (by have := HRz.out; have := HD.out.2; omega)
                  have HR2 : Hid ((R ++ D : ByteArray).data.toList = base ++ escP 3 (tt.data.toList.take (j + 1))) := by
                    show _ = _
                    rw [ByteArray.data_append, Array.toList_append, HR.out.2, HTake.out, escP_snoc, if_pos HES.out, List.append_assoc, HD.out.1]
                  generalize (R ++ D : ByteArray) = R2 at hadd2 HR2
                  go_wp2_with fail
                  exact ⟨⟨j + 1, R2, hjl, rfl, by go_num, HR.out.1, HR2.out⟩, less_j hjl (by go_num)⟩
                · have e4 : (tk == 4) = false := by simpa using h4
                  have e3 : (tk == 3) = false := by simpa using h3
                  have HES : Hid (¬ ((tk = 4 ∨ tk = 3) ∧ (b = 34 ∨ b = 92))) := fun e => e.1.elim h4 h3
                  have HD : Hid (C.data.toList = [b] ∧ C.size = 1) := ⟨by rw [HCv.out], by rw [HCv.out]; rfl⟩
                  have hadd2 : ∀ W : World, (Op.stringOp .add R C).run Tryz.prog W = .ok (.string (R ++ C)) W := fun W => run_string_add_sum W R C (by have := HRz.out; have := HD.out.2; omega)
                  have HR2 : Hid ((R ++ C : ByteArray).data.toList = base ++ escP tk (tt.data.toList.take (j + 1))) := by
                    show _ = _
                    rw [ByteArray.data_append, Array.toList_append, HR.out.2, HTake.out, escP_snoc, if_neg HES.out, List.append_assoc, HD.out.1]
                  generalize (R ++ C : ByteArray) = R2 at hadd2 HR2
                  go_wp2_with fail
                  exact ⟨⟨j + 1, R2, hjl, rfl, by go_num, HR.out.1, HR2.out⟩, less_j hjl (by go_num)⟩
            · have e34 : (C.toList == [34]) = false := by rw [HCv.out, toList_data]; simpa using hb34
              have HQ34 := hid hb34
              clear hb34
              by_cases hb92 : b = 92
              · have e92 : (C.toList == [92]) = true := by rw [HCv.out, toList_data, hb92]; rfl
                have HQ92 := hid hb92
                clear hb92
                by_cases h4 : tk = 4
                · subst h4
                  have HES : Hid (((4 : Int) = 4 ∨ (4 : Int) = 3) ∧ (b = 34 ∨ b = 92)) := ⟨.inl rfl, .inr HQ92.out⟩
                  have hadd1 : ∀ W : World, (Op.stringOp .add ⟨#[92]⟩ C).run Tryz.prog W = .ok (.string (⟨#[92]⟩ ++ C)) W := fun W => run_string_add_sum W ⟨#[92]⟩ C (by rw [HCv.out]; show 1 + 1 ≤ 9223372036854775807; decide)
                  have HD : Hid ((⟨#[92]⟩ ++ C : ByteArray).data.toList = [92, b] ∧ (⟨#[92]⟩ ++ C : ByteArray).size = 2) := ⟨by rw [HCv.out]; rfl, by rw [HCv.out]; rfl⟩
                  generalize (⟨#[92]⟩ ++ C : ByteArray) = D at hadd1 HD
                  have hadd2 : ∀ W : World, (Op.stringOp .add R D).run Tryz.prog W = .ok (.string (R ++ D)) W := fun W => run_string_add_sum W R D (by have := HRz.out; have := HD.out.2; omega)
                  have HR2 : Hid ((R ++ D : ByteArray).data.toList = base ++ escP 4 (tt.data.toList.take (j + 1))) := by
                    show _ = _
                    rw [ByteArray.data_append, Array.toList_append, HR.out.2, HTake.out, escP_snoc, if_pos HES.out, List.append_assoc, HD.out.1]
                  generalize (R ++ D : ByteArray) = R2 at hadd2 HR2
                  go_wp2_with fail
                  exact ⟨⟨j + 1, R2, hjl, rfl, by go_num, HR.out.1, HR2.out⟩, less_j hjl (by go_num)⟩
                · by_cases h3 : tk = 3
                  · subst h3
                    have HES : Hid (((3 : Int) = 4 ∨ (3 : Int) = 3) ∧ (b = 34 ∨ b = 92)) := ⟨.inr rfl, .inr HQ92.out⟩
                    have hadd1 : ∀ W : World, (Op.stringOp .add ⟨#[92]⟩ C).run Tryz.prog W = .ok (.string (⟨#[92]⟩ ++ C)) W := fun W => run_string_add_sum W ⟨#[92]⟩ C (by rw [HCv.out]; show 1 + 1 ≤ 9223372036854775807; decide)
                    have HD : Hid ((⟨#[92]⟩ ++ C : ByteArray).data.toList = [92, b] ∧ (⟨#[92]⟩ ++ C : ByteArray).size = 2) := ⟨by rw [HCv.out]; rfl, by rw [HCv.out]; rfl⟩
                    generalize (⟨#[92]⟩ ++ C : ByteArray) = D at hadd1 HD
                    have hadd2 : ∀ W : World, (Op.stringOp .add R D).run Tryz.prog W = .ok (.string (R ++ D)) W := fun W => run_string_add_sum W R D (by have := HRz.out; have := HD.out.2; omega)
                    have HR2 : Hid ((R ++ D : ByteArray).data.toList = base ++ escP 3 (tt.data.toList.take (j + 1))) := by
                      show _ = _
                      rw [ByteArray.data_append, Array.toList_append, HR.out.2, HTake.out, escP_snoc, if_pos HES.out, List.append_assoc, HD.out.1]
                    generalize (R ++ D : ByteArray) = R2 at hadd2 HR2
                    go_wp2_with fail
                    exact ⟨⟨j + 1, R2, hjl, rfl, by go_num, HR.out.1, HR2.out⟩, less_j hjl (by go_num)⟩
                  · have e4 : (tk == 4) = false := by simpa using h4
                    have e3 : (tk == 3) = false := by simpa using h3
                    have HES : Hid (¬ ((tk = 4 ∨ tk = 3) ∧ (b = 34 ∨ b = 92))) := fun e => e.1.elim h4 h3
                    have HD : Hid (C.data.toList = [b] ∧ C.size = 1) := ⟨by rw [HCv.out], by rw [HCv.out]; rfl⟩
                    have hadd2 : ∀ W : World, (Op.stringOp .add R C).run Tryz.prog W = .ok (.string (R ++ C)) W := fun W => run_string_add_sum W R C (by have := HRz.out; have := HD.out.2; omega)
                    have HR2 : Hid ((R ++ C : ByteArray).data.toList = base ++ escP tk (tt.data.toList.take (j + 1))) := by
                      show _ = _
                      rw [ByteArray.data_append, Array.toList_append, HR.out.2, HTake.out, escP_snoc, if_neg HES.out, List.append_assoc, HD.out.1]
                    generalize (R ++ C : ByteArray) = R2 at hadd2 HR2
                    go_wp2_with fail
                    exact ⟨⟨j + 1, R2, hjl, rfl, by go_num, HR.out.1, HR2.out⟩, less_j hjl (by go_num)⟩
              · have e92 : (C.toList == [92]) = false := by rw [HCv.out, toList_data]; simpa using hb92
                have HQ92 := hid hb92
                clear hb92
                have HES : Hid (¬ ((tk = 4 ∨ tk = 3) ∧ (b = 34 ∨ b = 92))) := fun e => e.2.elim HQ34.out HQ92.out
                have HD : Hid (C.data.toList = [b] ∧ C.size = 1) := ⟨by rw [HCv.out], by rw [HCv.out]; rfl⟩
                have hadd2 : ∀ W : World, (Op.stringOp .add R C).run Tryz.prog W = .ok (.string (R ++ C)) W := fun W => run_string_add_sum W R C (by have := HRz.out; have := HD.out.2; omega)
                have HR2 : Hid ((R ++ C : ByteArray).data.toList = base ++ escP tk (tt.data.toList.take (j + 1))) := by
                  show _ = _
                  rw [ByteArray.data_append, Array.toList_append, HR.out.2, HTake.out, escP_snoc, if_neg HES.out, List.append_assoc, HD.out.1]
                generalize (R ++ C : ByteArray) = R2 at hadd2 HR2
                go_wp2_with fail
                exact ⟨⟨j + 1, R2, hjl, rfl, by go_num, HR.out.1, HR2.out⟩, less_j hjl (by go_num)⟩
          · obtain rfl : j = tt.size := by omega
            have HF : Hid (R.data.toList = quoteN ts (k + 1)) := by show _ = _; rw [HR.out.2, HQ1.out, List.take_of_length_le (Nat.le_of_eq (size_data tt))]
            go_wp2_with fail
            exact ⟨⟨k + 1, R, hlt, rfl, by go_num, HB2.out.trans (HR.out.1.mono HB2.out.size), HF.out⟩, less_j hlt (by go_num)⟩
    · obtain rfl : k = N := by omega
      have HQL : Hid ((S ++ ⟨#[34]⟩ : ByteArray) = ⟨(quoteL ts).toArray⟩) := by
        show _ = _
        have e : (S ++ ⟨#[34]⟩ : ByteArray).data.toList = quoteL ts := by
          rw [ByteArray.data_append, Array.toList_append, HC.out.2]
          unfold quoteL
          rw [HN.out]
        rw [← e]
      have hle := quoteN_le ts 100000 HZ.out k (by rw [HN.out]; exact hk)
      rw [← HC.out.2, size_data] at hle
      have hadd : ∀ W : World, (Op.stringOp .add S ⟨#[34]⟩).run Tryz.prog W = .ok (.string (S ++ ⟨#[34]⟩)) W := fun W => run_string_add_sum W S ⟨#[34]⟩ (by show S.size + 1 ≤ _; omega)
      rw [HQL.out] at hadd
      have HG1 := hid (And.intro ((HC.out.1.block _ (lt_of_block HBW.out.1)).trans HBW.out.1) ((HC.out.1.block _ (lt_of_block HBW.out.2)).trans HBW.out.2))
      have HBB := hid (HB0.out.trans (HC.out.1.mono HB0.out.size))
      obtain ⟨⟨p0, p1, p2, p3, p4, p5, p6, p7, p8, p9, p10⟩, ⟨z0, z1, z2, z3, z4, z5, z6, z7, z8, z9, z10⟩⟩ := tok_block HG1.out.1
      obtain ⟨⟨d0, d1, d2, d3, d4, d5, d6, d7, d8, d9, d10⟩, ⟨y0, y1, y2, y3, y4, y5, y6, y7, y8, y9, y10⟩⟩ := tok_block HG1.out.2
      have hl1 := lt_of_block HG1.out.1
      have hl2 := lt_of_block HG1.out.2
      have hne : w.heap.size ≠ w.heap.size + 1 := by omega
      clear hle HC hk hlt
      obtain ⟨Q, hQ⟩ : ∃ Q, (⟨(quoteL ts).toArray⟩ : ByteArray) = Q := ⟨_, rfl⟩
      rw [hQ] at hadd
      have HQQ := hid hQ
      clear hQ
      go_wp2_with fail
      exact bodyPost_ret (rquote_ret (put_tok (Nat.succ_ne_self _) HG1.out.2) _ rfl) rfl ⟨by rw [HQQ.out], put_below (Nat.le_refl _) (Nat.le_succ _) HBB.out⟩
end
end Go.Proofs.YtedmcefckcmheaaGreatDoor
