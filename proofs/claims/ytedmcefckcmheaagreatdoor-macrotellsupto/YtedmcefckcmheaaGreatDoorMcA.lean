/- How macros lie in memory. · The library's Clone at definitions. · The library's Grow and Concat at definitions. · The library's Concat at definitions: some, and one more. · Walk of Find. · Walk of Same. · Walk of the library's EqualFunc at tokens, and of Same. · Walk of Define. · The library's DeleteFunc at definitions of a name, and Undef. · Plain facts of Define and Undef: what is defined twice is defined once. -/
import Derived.Test.YtedmcefckcmheaaGreatDoorLxC
import Derived.Test.YtedmcefckcmheaaGreatDoorRxWord
import Derived.Lib.SlBy
import Derived.Test.YtedmcefckcmheaaGreatDoorMcShelf
import Derived.Test.YtedmcefckcmheaaGreatDoorMcShelfB
import Derived.Laws.AppendOwn
import Derived.Test.YtedmcefckcmheaaGreatDoorStepApp
import Derived.Maps.AppendAt
import Derived.OwnWalk
import Derived.Shelf.SlicesQ.IndexFunc
import Derived.Lib.SliceRun
import Derived.Deep.RegionHeld3
import Derived.Laws.EntriesVeiled
import Derived.Shelf.Slices.Empties2
import Derived.Test.YtedmcefckcmheaaGreatDoorLater
import Derived.Laws.IdiomCopy
namespace Go.Proofs.YtedmcefckcmheaaGreatDoor
section
open Go.RowKit Go.Shelf

/-- What a slice of strings holds. -/
def StAt (w : World) (a : Option Addr) (ss : List ByteArray) : Prop :=
  ss = [] ∨ ∃ b off, a = some ⟨b, off, none⟩ ∧ b < w.heap.size ∧ ∀ (j : Nat) x, ss[j]? = some x → w.cell? ⟨b, off + j, none⟩ = some (.string x)
theorem StAt.below {w w' : World} {a : Option Addr} {ss : List ByteArray} (h : StAt w a ss) (hb : Below w.heap.size w w') : StAt w' a ss := by
  rcases h with rfl | ⟨b, off, rfl, hlt, hc⟩
  · exact .inl rfl
  · exact .inr ⟨b, off, rfl, Nat.lt_of_lt_of_le hlt hb.size, fun j x hx => (hb.cell (p := ⟨b, _, none⟩) hlt).trans (hc j x hx)⟩
/-- A definition's values, as a call hands it on. -/
structure Mv where
  name : ByteArray
  call : Bool
  pa : Option Addr
  pn : Nat
  pc : Nat
  more : Bool
  ba : Option Addr
  bn : Nat
  bc : Nat
instance : Inhabited Mv := ⟨⟨⟨#[]⟩, false, none, 0, 0, false, none, 0, 0⟩⟩
def encM (m : Mv) : List Value := [.string m.name, .bool m.call, .slice m.pa m.pn m.pc, .bool m.more, .slice m.ba m.bn m.bc]
def aggM (m : Mv) : Value := .agg #[.string m.name, .bool m.call, .slice m.pa m.pn m.pc, .bool m.more, .slice m.ba m.bn m.bc]
/-- A definition. -/
structure Mc where
  name : ByteArray
  call : Bool
  params : List ByteArray
  more : Bool
  body : List Tk
/-- Values that are a definition. -/
structure MIs (w : World) (v : Mv) (m : Mc) : Prop where
  name : v.name = m.name
  call : v.call = m.call
  pn : v.pn = m.params.length
  pars : StAt w v.pa m.params
  more : v.more = m.more
  bn : v.bn = m.body.length
  body : TAt w v.ba m.body
theorem MIs.below {w w' : World} {v : Mv} {m : Mc} (h : MIs w v m) (hb : Below w.heap.size w w') : MIs w' v m :=
  ⟨h.name, h.call, h.pn, h.pars.below hb, h.more, h.bn, h.body.below hb⟩
/-- What a slice of macros holds. -/
def MsAt (w : World) (a : Option Addr) (vs : List Mv) : Prop :=
  (vs = [] ∧ a = none) ∨ ∃ b off, a = some ⟨b, off, none⟩ ∧ b < w.heap.size ∧ ∀ (j : Nat) x, vs[j]? = some x → ∀ (i : Nat) v, (encM x)[i]? = some v → w.cell? ⟨b, off + j * 5 + i, none⟩ = some v
theorem MsAt.below {w w' : World} {a : Option Addr} {vs : List Mv} (h : MsAt w a vs) (hb : Below w.heap.size w w') : MsAt w' a vs := by
  rcases h with ⟨rfl, rfl⟩ | ⟨b, off, rfl, hlt, hc⟩
  · exact .inl ⟨rfl, rfl⟩
  · exact .inr ⟨b, off, rfl, Nat.lt_of_lt_of_le hlt hb.size, fun j x hx i v hv => (hb.cell (p := ⟨b, _, none⟩) hlt).trans (hc j x hx i v hv)⟩
def cellsM (vs : List Mv) : List Value := vs.flatMap encM
theorem encM_length (m : Mv) : (encM m).length = 5 := rfl
theorem cellsM_length (vs : List Mv) : (cellsM vs).length = vs.length * 5 := by
  induction vs with
  | nil => rfl
  | cons x r ih => simp only [cellsM, List.flatMap_cons, List.length_append] at ih ⊢; rw [ih, encM_length]; simp; omega
theorem cellsM_append (vs us : List Mv) : cellsM (vs ++ us) = cellsM vs ++ cellsM us := by simp [cellsM]
theorem cellsM_one (x : Mv) : cellsM [x] = encM x := by simp [cellsM]
theorem cellsM_get (vs : List Mv) (j i : Nat) (x : Mv) (v : Value) (h : vs[j]? = some x) (hv : (encM x)[i]? = some v) : (cellsM vs)[j * 5 + i]? = some v := by
  have hi : i < 5 := by have := (List.getElem?_eq_some_iff.1 hv).1; rwa [encM_length] at this
  induction vs generalizing j with
  | nil => simp at h
  | cons y r ih =>
    cases j with
    | zero =>
      simp at h; subst h
      simp only [cellsM, List.flatMap_cons]
      rw [List.getElem?_append_left (by rw [encM_length]; omega)]
      simpa using hv
    | succ j =>
      have := ih j (by simpa using h)
      simp only [cellsM, List.flatMap_cons] at this ⊢
      rw [List.getElem?_append_right (by rw [encM_length]; omega)]
      have e1 : (j + 1) * 5 + i - (encM y).length = j * 5 + i := by rw [encM_length]; omega
      rw [e1]
      exact this
/-- Each cell of a row is one of some entry's. -/
theorem cellsM_at (vs : List Mv) (k : Nat) (u : Value) (h : (cellsM vs)[k]? = some u) : ∃ x, vs[k / 5]? = some x ∧ (encM x)[k % 5]? = some u := by
  have hk : k < vs.length * 5 := by have := (List.getElem?_eq_some_iff.1 h).1; rwa [cellsM_length] at this
  have hx : vs[k / 5]? = some (vs[k / 5]'(by omega)) := List.getElem?_eq_getElem _
  refine ⟨_, hx, ?_⟩
  have hm : k % 5 < (encM (vs[k / 5]'(by omega))).length := by rw [encM_length]; omega
  have hv := List.getElem?_eq_getElem hm
  have h2 := cellsM_get vs (k / 5) (k % 5) _ _ hx hv
  rw [show k / 5 * 5 + k % 5 = k by omega, h] at h2
  rw [hv, ← h2]
theorem encM_one (x : Mv) : ∀ u ∈ encM x, u.oneCell' = true := by
  intro u hu
  simp only [encM, List.mem_cons, List.not_mem_nil, or_false] at hu
  rcases hu with rfl | rfl | rfl | rfl | rfl <;> rfl
theorem cellsM_cell (vs : List Mv) : ∀ u ∈ cellsM vs, u.oneCell' = true := by
  intro u hu
  obtain ⟨x, _, hx⟩ := List.mem_flatMap.1 hu
  exact encM_one x u hx
theorem MsAt.of_row {w : World} {base : Nat} {v : Value} {vs : List Mv} (h : w.ownsRow base 26 5 v vs.length (cellsM vs)) : ∃ a c, v = .slice a vs.length c ∧ MsAt w a vs := by
  rcases h.2 with ⟨rfl, h0⟩ | ⟨g, cap, cur, rfl, hb, hg, hn, hc, hs, ht⟩
  · exact ⟨none, 0, by rw [h0], .inl ⟨List.eq_nil_of_length_eq_zero h0, rfl⟩⟩
  · refine ⟨_, _, rfl, .inr ⟨g, 0, rfl, (Array.getElem?_eq_some_iff.1 hg).1, fun j x hx i v hv => ?_⟩⟩
    have hj : j < vs.length := (List.getElem?_eq_some_iff.1 hx).1
    have hi : i < 5 := by have := (List.getElem?_eq_some_iff.1 hv).1; rwa [encM_length] at this
    have h1 := cellsM_get vs j i x v hx hv
    rw [← ht, List.getElem?_take_of_lt (by omega), Array.getElem?_toList] at h1
    rw [Go.Joins.cell_of_block hg, Nat.zero_add]
    exact h1
theorem MsAt.news {w : World} {b off : Nat} {vs : List Mv} (hc : ∀ (j : Nat) x, vs[j]? = some x → ∀ (i : Nat) v, (encM x)[i]? = some v → w.cell? ⟨b, off + j * 5 + i, none⟩ = some v) : ∀ (j : Nat) u, (cellsM vs)[j]? = some u → w.cell? ⟨b, off + j, none⟩ = some u := by
  intro j u hu
  obtain ⟨x, hx, hv⟩ := cellsM_at vs j u hu
  have := hc _ x hx _ u hv
  rwa [show off + j / 5 * 5 + j % 5 = off + j by omega] at this
/-- Macros in memory, each with its values. -/
def MsIs (w : World) (vs : List Mv) (ms : List Mc) : Prop := vs.length = ms.length ∧ ∀ (j : Nat) v m, vs[j]? = some v → ms[j]? = some m → MIs w v m
theorem MsIs.below {w w' : World} {vs : List Mv} {ms : List Mc} (h : MsIs w vs ms) (hb : Below w.heap.size w w') : MsIs w' vs ms :=
  ⟨h.1, fun j v m hv hm => (h.2 j v m hv hm).below hb⟩

/-- The names that no definition may have. -/
def builtinB (l : List UInt8) : Bool := (l == [95, 95, 76, 73, 78, 69, 95, 95]) || (l == [95, 95, 70, 73, 76, 69, 95, 95]) || (l == [100, 101, 102, 105, 110, 101, 100])
set_option maxRecDepth 100000 in
theorem Builtin_any (s : ByteArray) (w : World) : Calls Tryz.prog 20 #[.string s] w fun e w' => e = .returned (.bool (builtinB s.toList)) ∧ w' = w := by
  unfold builtinB
  go_enter Tryz.func20, Tryz.ntmps20
  go_wp2
  all_goals go_ret
  all_goals exact ⟨ret_bool (by simp_all), rfl⟩
/-- The first definition of a name; -1. -/
def findV (vs : List Mv) (n : List UInt8) : Int := Lib.idxBy (fun _ y => y.name.toList == n) vs default
end
section
open Go.RowKit Go.Shelf

theorem info_mac : (Tryz.prog.info? 26).map (fun i => (i.zero, i.size, i.bytes)) = some (some (.agg #[.string ByteArray.empty, .bool false, .slice none 0 0, .bool false, .slice none 0 0]), 5, 80) := by kernel_rfl
set_option maxRecDepth 100000 in
/-- A copy: a row of the call's own, or nothing. -/
theorem Clone_any (a : Option Addr) (c : Nat) (vs : List Mv) (w : World) (hM : MsAt w a vs) (hl : vs.length ≤ 1048576) :
    Calls Tryz.prog 38 #[.slice a vs.length c] w fun e w' => ∃ v', e = .returned v' ∧ w'.ownsRow w.heap.size 26 5 v' vs.length (cellsM vs) ∧ Below w.heap.size w w' := by
  rcases hM with ⟨rfl, rfl⟩ | ⟨b, off, rfl, hb, hc⟩
  · refine (AnyE.slices_Clone_nil Tryz.layCloneM 0 c w).mono ?_
    rintro e w' ⟨rfl, rfl⟩
    exact ⟨_, rfl, World.ownsRow_nil _ _ _ _, Below.refl _ _⟩
  · obtain ⟨i0, hi, hz0, hz1, hz2⟩ := info_parts info_mac
    refine (AnyE.slices_Clone Tryz.layCloneM i0 _ 5 80 hi hz0 hz1 hz2 rfl (by decide) Tryz.sizeOf26 b off vs.length c (cellsM vs) w (cellsM_length vs) (by unfold maxLen; omega) (by omega) (MsAt.news hc) (cellsM_cell vs)).mono ?_
    rintro e w' ⟨v', rfl, ho, _, hb'⟩
    exact ⟨v', rfl, ho, hb'⟩
end
section
open Go.RowKit Go.Shelf

theorem zeroCells_size (z : Array Value) (n : Nat) : (Builtin.zeroCells z n).size = n * z.size := by
  unfold Builtin.zeroCells
  simp
theorem Grow_nil (n : Nat) (hn : 0 < n) (hl : n ≤ 1048577) (w : World) :
    Calls Tryz.prog 59 #[.slice none 0 0, .int .i64 (n : Int)] w fun e w' => ∃ v', e = .returned v' ∧ w'.ownsRow w.heap.size 26 5 v' 0 [] ∧ v'.ownBlock = some w.heap.size ∧ Below w.heap.size w w' := by
  obtain ⟨i0, hi, hz0, hz1, hz2⟩ := info_parts info_mac
  refine (Any8.slices_Grow_grow Tryz.layGrowM i0 _ hi hz0 (by omega) none 0 0 n [] w (Nat.le_refl _) (by omega) (by rw [hz2]; omega) (by omega) (by simp) (fun _ => rfl) (fun a h => by cases h)).mono ?_
  rintro e w' ⟨rfl, rfl⟩
  refine ⟨_, rfl, ⟨rfl, .inr ⟨w.heap.size, _, _, rfl, Nat.le_refl _, heap_alloc_new w.drew _, Nat.zero_le _, ?_, ?_, by simp⟩⟩, rfl, ?_⟩
  · exact grownCap_le_maxLen _ _ _ _ (by unfold maxLen; omega)
  · have hge := grownCap_ge w (0 + n) 0 26
    have e5 : (Value.agg #[.string ByteArray.empty, .bool false, .slice none 0 0, .bool false, .slice none 0 0]).cells.size = 5 := rfl
    rw [Array.size_append, Array.size_append, zeroCells_size, zeroCells_size, e5]
    show (0 + (0 + n - 0) * 5) + (grownCap w (0 + n) 0 26 - (0 + n)) * 5 = grownCap w (0 + n) 0 26 * 5
    omega
  · exact (Below.refl _ w).drew.alloc (Nat.le_refl _) _
end
section
open Go.RowKit Go.Shelf

theorem MsAt.one {w : World} {B : Nat} {x : Mv} (h : ∀ (i : Nat) v, (encM x)[i]? = some v → w.cell? ⟨B, i, none⟩ = some v) : ∀ (j : Nat) u, (cellsM [x])[j]? = some u → w.cell? ((⟨B, 0, none⟩ : Addr).add j) = some u := by
  intro j u hu
  rw [cellsM_one] at hu
  rw [Addr.add_lit, Nat.zero_add]
  exact h j u hu
set_option maxRecDepth 100000 in
set_option maxHeartbeats 1000000 in
theorem Concat_two (B : Nat) (a : Option Addr) (c : Nat) (vs : List Mv) (x : Mv) (Bm : Nat) (w : World) (hB0 : w.cell? ⟨B, 0, none⟩ = some (.slice a vs.length c)) (hB1 : w.cell? ⟨B, 1, none⟩ = some (.slice (some ⟨Bm, 0, none⟩) 1 1)) (hB : B < w.heap.size) (hM : MsAt w a vs) (hX : ∀ (i : Nat) v, (encM x)[i]? = some v → w.cell? ⟨Bm, i, none⟩ = some v) (hBm : Bm < w.heap.size) (hl : vs.length ≤ 1048576) :
    Calls Tryz.prog 39 #[.slice (some ⟨B, 0, none⟩) 2 2] w fun e w' => ∃ v', e = .returned v' ∧ w'.ownsRow w.heap.size 26 5 v' (vs.length + 1) (cellsM (vs ++ [x])) ∧ Below w.heap.size w w' := by
  obtain ⟨n, hn⟩ : ∃ n, vs.length = n := ⟨_, rfl⟩
  rw [hn] at hB0 hl ⊢
  have HN := hid hn
  have HG := hid (Grow_nil (n + 1) (Nat.succ_pos _) (by omega) w)
  push_cast at HG
  have HM := hid hM
  have HX := hid hX
  have hn0 : (0 : Int) ≤ (n : Int) := by omega
  have w1 : IntKind.i64.wrap (0 + (n : Int)) = (n : Int) := by rw [IntKind.wrap_i64]; omega
  have w2 : IntKind.i64.wrap ((n : Int) + 1) = (n : Int) + 1 := by rw [IntKind.wrap_i64]; omega
  have w3 : wrap64 (n : Int) = (n : Int) := by unfold wrap64; omega
  have w4 : wrap64 ((n : Int) + 1) = (n : Int) + 1 := by unfold wrap64; omega
  have l1 : ¬ ((n : Int) < 0) := by omega
  have l2 : ¬ ((n : Int) + 1 < 0) := by omega
  clear hn hM hX
  go_enter Tryz.func39, Tryz.ntmps39
  go_wp2_with fail
  refine wp_loop_rounds 3 ?_
  rw [rounds_succ]
  go_wp2_with fail
  rw [rounds_succ]
  go_wp2_with fail
  rw [rounds_succ]
  go_wp2_with fail
  refine HG.out.mono ?_
  rintro e w5 ⟨v', rfl, hown, hob, hb5⟩
  obtain ⟨cap, rfl⟩ : ∃ cap, v' = .slice (some ⟨w.heap.size, 0, none⟩) 0 cap := by
    rcases hown.2 with ⟨rfl, _⟩ | ⟨g, cap, cur, rfl, _⟩
    · cases hob
    · cases hob
      exact ⟨cap, rfl⟩
  obtain ⟨i0, hi, hz0, hz1, hz2⟩ := info_parts info_mac
  have HB5 := hid hb5
  have HO5 := hid hown
  have hk0 := (hb5.cell (p := ⟨B, 0, none⟩) hB).trans hB0
  have hk1 := (hb5.cell (p := ⟨B, 1, none⟩) hB).trans hB1
  have HBB := hid (And.intro hB hBm)
  clear hown hob HG hb5
  go_wp2_with fail
  refine wp_loop_rounds 3 ?_
  rcases HM.out with ⟨hv0, ha0⟩ | ⟨b, off, ha0, hb, hc⟩
  · subst ha0
    have hn0' : n = 0 := by rw [← HN.out, hv0]; rfl
    subst hn0'
    subst hv0
    rw [rounds_succ]
    go_wp2_with fail
    have HB6 := HB5
    have HO6 := HO5
    have HOB6 : Hid (∀ k, (Value.slice (some ⟨w.heap.size, 0, none⟩) 0 cap).ownBlock = some k → w.heap.size ≤ k) := fun k e => by simp [Value.ownBlock] at e; omega
    clear hk0 hk1
    rw [rounds_succ]
    have hk0 := (HB6.out.cell (p := ⟨B, 1, none⟩) hB).trans hB1
    have HC6 := hid (MsAt.one (w := w5) (fun i v hv => (HB6.out.cell (p := ⟨Bm, i, none⟩) hBm).trans (HX.out i v hv)))
    have hvl := HO6.out.2
    go_wp2_with (at_builtin; refine wpList_append_own_at _ rfl _ _ 23 rfl w.heap.size 26 i0 _ 5 80 Tryz.underlying23 hi hz0 hz1 hz2 rfl (by decide) _ _ _ rfl HO6.out ⟨Bm, 0, none⟩ 1 1 (cellsM [x]) rfl (cellsM_length _) HC6.out (cellsM_cell _) (by unfold maxLen; omega) (by omega) HB6.out.size ?_)
    intro v7 w7 hown7 hg7 _ _
    have HB7 := hid (HB6.out.grown hg7 HB6.out.size (fun k e => HOB6.out k e))
    have HO7 := hid hown7
    clear hown7 hg7 hk0 hvl
    go_wp2_with fail
    rw [rounds_succ]
    go_wp2_with fail
    go_ret
    refine ⟨_, rfl, ?_, HB7.out⟩
    rw [cellsM_append]
    exact HO7.out
  · subst ha0
    rw [rounds_succ]
    have HNE : Hid (∀ (j : Nat) u, (cellsM vs)[j]? = some u → w5.cell? ((⟨b, off, none⟩ : Addr).add j) = some u) := fun j u hu => by rw [Addr.add_lit]; exact (HB5.out.cell (p := ⟨b, off + j, none⟩) hb).trans (MsAt.news hc j u hu)
    go_wp2_with (at_builtin; refine wpList_append_own_at _ rfl _ _ 23 rfl w.heap.size 26 i0 _ 5 80 Tryz.underlying23 hi hz0 hz1 hz2 rfl (by decide) _ _ _ rfl HO5.out ⟨b, off, none⟩ n c (cellsM vs) rfl (by rw [cellsM_length, HN.out]) HNE.out (cellsM_cell vs) (by unfold maxLen; omega) (by omega) HB5.out.size ?_)
    intro v6 w6 hown6 hg6 _ hob6
    have HB6 := hid (HB5.out.grown hg6 HB5.out.size (fun k e => by simp [Value.ownBlock] at e; omega))
    have HO6 := hid hown6
    have HOB6 := hid (show ∀ k, v6.ownBlock = some k → w.heap.size ≤ k from fun k e => by
      rcases hob6 with h | h
      · rw [h] at e; simp [Value.ownBlock] at e; omega
      · rw [h] at e; simp at e; have := HB5.out.size; omega)
    clear hown6 hg6 hob6 hk0 hk1 HNE HO5
    go_wp2_with fail
    rw [rounds_succ]
    have hk0 := (HB6.out.cell (p := ⟨B, 1, none⟩) hB).trans hB1
    have HC6 := hid (MsAt.one (w := w6) (fun i v hv => (HB6.out.cell (p := ⟨Bm, i, none⟩) hBm).trans (HX.out i v hv)))
    have hvl := HO6.out.2
    go_wp2_with (at_builtin; refine wpList_append_own_at _ rfl _ _ 23 rfl w.heap.size 26 i0 _ 5 80 Tryz.underlying23 hi hz0 hz1 hz2 rfl (by decide) _ _ _ rfl HO6.out ⟨Bm, 0, none⟩ 1 1 (cellsM [x]) rfl (cellsM_length _) HC6.out (cellsM_cell _) (by unfold maxLen; omega) (by omega) HB6.out.size ?_)
    intro v7 w7 hown7 hg7 _ _
    have HB7 := hid (HB6.out.grown hg7 HB6.out.size (fun k e => HOB6.out k e))
    have HO7 := hid hown7
    clear hown7 hg7 hk0 hvl
    go_wp2_with fail
    rw [rounds_succ]
    go_wp2_with fail
    go_ret
    refine ⟨_, rfl, ?_, HB7.out⟩
    rw [cellsM_append]
    exact HO7.out
end
section
open Go.RowKit Go.Shelf Go.Lib

set_option maxRecDepth 100000 in
/-- What tells macros of one name from all others. -/
theorem named_pred (n : ByteArray) (B : Nat) (w : World) (hB : B < w.heap.size) (hcell : w.cell? ⟨B, 0, none⟩ = some (.string n)) :
    PredBelow Tryz.prog 60 #[.pointer (some ⟨B, 0, none⟩)] (fun x => .agg (encM x).toArray) (fun x : Mv => x.name.toList == n.toList) w := fun W x hb => by
  have hc : W.cell? ⟨B, 0, none⟩ = some (.string n) := (hb.cell (p := ⟨B, 0, none⟩) hB).trans hcell
  have hBW : B < W.heap.size := Nat.lt_of_lt_of_le hB hb.size
  have hne : B ≠ W.heap.size := by omega
  show Calls Tryz.prog 60 #[.agg #[.string x.name, .bool x.call, .slice x.pa x.pn x.pc, .bool x.more, .slice x.ba x.bn x.bc], .pointer (some ⟨B, 0, none⟩)] W _
  go_enter Tryz.func60, Tryz.ntmps60
  go_wp2
  all_goals (go_ret; exact ⟨by simp_all, hb.alloc hb.size _⟩)

set_option maxRecDepth 100000 in
theorem named_any (n : ByteArray) (w : World) : Calls Tryz.prog 41 #[.string n] w fun e w' => e = .returned (.func (.func 60) #[] #[.pointer (some ⟨w.heap.size, 0, none⟩)]) ∧ w' = w.alloc (.cells #[.string n] 9) := by
  go_enter Tryz.func41, Tryz.ntmps41
  go_wp2_with fail
  go_ret
  exact ⟨rfl, rfl⟩
set_option maxRecDepth 100000 in
theorem indexM_none (a : Option Addr) (c : Nat) (fv : Value) (w : World) : Calls Tryz.prog 40 #[.slice a 0 c, fv] w fun e w' => e = .returned (.int .i64 (-1)) ∧ w' = w := by
  go_enter Tryz.func40, Tryz.ntmps40
  go_wp2_with fail
  refine wp_loop_rounds 1 ?_
  rw [rounds_succ]
  go_wp2_with fail
  go_ret
  exact ⟨rfl, rfl⟩
theorem getD_some {α : Type} [Inhabited α] {l : List α} {j : Nat} (h : j < l.length) : l[j]? = some l[j]! := by
  rw [List.getElem?_eq_getElem h, getElem!_pos l j h]
set_option maxRecDepth 100000 in
/-- The library's search for a definition, at whatever predicate. -/
theorem indexM_any (p : Mv → Bool) (g : Nat) (lb : Array Value) (eg : ∀ args w, (callFunc g args).run Tryz.prog w = .ok (.enter g args) w) (a : Option Addr) (c : Nat) (vs : List Mv) (w : World) (hp : PredBelow Tryz.prog g lb (fun x => .agg (encM x).toArray) p w) (hM : MsAt w a vs) (hl : vs.length ≤ 1048576) :
    Calls Tryz.prog 40 #[.slice a vs.length c, .func (.func g) #[] lb] w fun e w' => e = .returned (.int .i64 (Lib.idxBy (fun _ y => p y) vs default)) ∧ Below w.heap.size w w' := by
  rcases hM with ⟨rfl, rfl⟩ | ⟨b, off, rfl, hb, hc⟩
  · refine (indexM_none none c _ w).mono ?_
    rintro e w' ⟨rfl, rfl⟩
    exact ⟨rfl, Below.refl _ _⟩
  · have := AnyQ.slices_IndexFunc Tryz.layIndexM 5 Tryz.isAgg26 Tryz.sizeOf26 encM (fun _ => rfl) p g lb eg b off vs.length c vs w hp (Nat.le_refl _) (by omega) hb (fun j hj i v hv => hc j _ (getD_some hj) i v hv)
    rw [List.take_length] at this
    exact this

set_option maxRecDepth 100000 in
/-- The first one's number; -1. -/
theorem Find_any (a : Option Addr) (c : Nat) (vs : List Mv) (n : ByteArray) (w : World) (hM : MsAt w a vs) (hl : vs.length ≤ 1048576) :
    Calls Tryz.prog 16 #[.slice a vs.length c, .string n] w fun e w' => e = .returned (.int .i64 (findV vs n.toList)) ∧ Below w.heap.size w w' := by
  have HN := hid (named_any n w)
  have hb0 := (Below.refl _ w).alloc (Nat.le_refl _) (.cells #[.string n] 9)
  have HB0 := hid hb0
  have HI := hid (indexM_any (fun x : Mv => x.name.toList == n.toList) 60 #[.pointer (some ⟨w.heap.size, 0, none⟩)] (enters_of Tryz.func60 (by kernel_rfl) rfl) a c vs (w.alloc (.cells #[.string n] 9))
    (named_pred n w.heap.size _ (by simp) (by simp)) (hM.below hb0) hl)
  unfold findV
  generalize Lib.idxBy (fun _ y : Mv => y.name.toList == n.toList) vs default = r at HI ⊢
  clear hb0 hM
  go_enter Tryz.func16, Tryz.ntmps16
  go_wp2_with fail
  refine HN.out.mono ?_
  rintro e w1 ⟨rfl, hw1⟩
  subst w1
  go_wp2_with fail
  refine HI.out.mono ?_
  rintro e w2 ⟨rfl, hb2⟩
  have HB2 := hid (HB0.out.trans (hb2.mono HB0.out.size))
  clear hb2
  go_wp2_with fail
  go_ret
  exact ⟨rfl, HB2.out⟩
end
section
open Go.RowKit Go.Shelf

/-- Whether two tokens of bodies are the same. -/
def sameT (x y : Tk) : Bool := (x.kind == y.kind) && (x.text.toList == y.text.toList) && (x.space == y.space)
def sameTs : List Tk → List Tk → Bool
  | [], [] => true
  | x :: r, y :: s => sameT x y && sameTs r s
  | _, _ => false
theorem sameTs_len : ∀ (xs ys : List Tk), sameTs xs ys = true → xs.length = ys.length
  | [], [], _ => rfl
  | x :: r, y :: s, h => by
    simp only [sameTs, Bool.and_eq_true] at h
    simp [sameTs_len r s h.2]
  | [], _ :: _, h => by simp [sameTs] at h
  | _ :: _, [], h => by simp [sameTs] at h
theorem sameTs_iff : ∀ (xs ys : List Tk), xs.length = ys.length → (sameTs xs ys = true ↔ ∀ (j : Nat) x y, xs[j]? = some x → ys[j]? = some y → sameT x y = true)
  | [], [], _ => by simp [sameTs]
  | x :: r, y :: s, h => by
    have ih := sameTs_iff r s (by simpa using h)
    simp only [sameTs, Bool.and_eq_true, ih]
    constructor
    · rintro ⟨h1, h2⟩ j a b ha hb
      cases j with
      | zero => simp at ha hb; subst ha; subst hb; exact h1
      | succ j => exact h2 j a b (by simpa using ha) (by simpa using hb)
    · intro h'
      exact ⟨h' 0 x y rfl rfl, fun j a b ha hb => h' (j + 1) a b (by simpa using ha) (by simpa using hb)⟩

set_option maxRecDepth 100000 in
set_option maxHeartbeats 1000000 in
theorem same1_any (x y : Tk) (w : World) : Calls Tryz.prog 37 #[.agg (encT x).toArray, .agg (encT y).toArray] w fun e w' => e = .returned (.bool (sameT x y)) ∧ Below w.heap.size w w' := by
  obtain ⟨k0, t0, s0, f0, i0, l0, r0, n0⟩ := x
  obtain ⟨k1, t1, s1, f1, i1, l1, r1, n1⟩ := y
  unfold sameT
  dsimp only [encT]
  have hb2 := ((Below.refl _ w).alloc (Nat.le_refl _) (.cells #[.int .i64 k0, .string t0, .bool s0, .bool f0, .int .i64 i0, .int .i64 l0, .int .i64 r0, .int .i64 n0, .slice none 0 0, .slice none 0 0, .int .i64 0] 43)).alloc (by simp) (.cells #[.int .i64 k1, .string t1, .bool s1, .bool f1, .int .i64 i1, .int .i64 l1, .int .i64 r1, .int .i64 n1, .slice none 0 0, .slice none 0 0, .int .i64 0] 43)
  have HB := hid hb2
  clear hb2
  rcases hk : (k0 == k1) with _ | _
  · go_enter Tryz.func37, Tryz.ntmps37
    go_wp2_with fail
    go_ret
    exact ⟨rfl, HB.out⟩
  · rcases ht : (t0.toList == t1.toList) with _ | _
    · go_enter Tryz.func37, Tryz.ntmps37
      go_wp2_with fail
      go_ret
      exact ⟨rfl, HB.out⟩
    · rcases hs : (s0 == s1) with _ | _
      all_goals go_enter Tryz.func37, Tryz.ntmps37
      all_goals go_wp2_with fail
      all_goals go_ret
      all_goals exact ⟨rfl, HB.out⟩
end
section
open Go.RowKit Go.Shelf

theorem tk_cells {w : World} {b off : Nat} {x : Tk} {j : Nat} (hcx : ∀ (i : Nat) v, (encT x)[i]? = some v → w.cell? ⟨b, off + j * 11 + i, none⟩ = some v) :
    w.cell? ⟨b, off + j * 11, none⟩ = some (.int .i64 x.kind) ∧ w.cell? ⟨b, off + j * 11 + 1, none⟩ = some (.string x.text) ∧ w.cell? ⟨b, off + j * 11 + 2, none⟩ = some (.bool x.space) ∧ w.cell? ⟨b, off + j * 11 + 3, none⟩ = some (.bool x.first) ∧ w.cell? ⟨b, off + j * 11 + 4, none⟩ = some (.int .i64 x.file) ∧ w.cell? ⟨b, off + j * 11 + 5, none⟩ = some (.int .i64 x.lo) ∧ w.cell? ⟨b, off + j * 11 + 6, none⟩ = some (.int .i64 x.hi) ∧ w.cell? ⟨b, off + j * 11 + 7, none⟩ = some (.int .i64 x.line) ∧ w.cell? ⟨b, off + j * 11 + 8, none⟩ = some (.slice none 0 0) ∧ w.cell? ⟨b, off + j * 11 + 9, none⟩ = some (.slice none 0 0) ∧ w.cell? ⟨b, off + j * 11 + 10, none⟩ = some (.int .i64 0) :=
  ⟨hcx 0 _ rfl, hcx 1 _ rfl, hcx 2 _ rfl, hcx 3 _ rfl, hcx 4 _ rfl, hcx 5 _ rfl, hcx 6 _ rfl, hcx 7 _ rfl, hcx 8 _ rfl, hcx 9 _ rfl, hcx 10 _ rfl⟩

set_option maxRecDepth 100000 in
theorem equalT_lens (a1 a2 : Option Addr) (n m c1 c2 : Nat) (fv : Value) (w : World) (h : n ≠ m) :
    Calls Tryz.prog 36 #[.slice a1 n c1, .slice a2 m c2, fv] w fun e w' => e = .returned (.bool false) ∧ w' = w := by
  have hnm : ((n : Int) != (m : Int)) = true := by simp; omega
  have hnm' : ¬ (n : Int) = (m : Int) := by omega
  go_enter Tryz.func36, Tryz.ntmps36
  go_wp2_with fail
  go_ret
  exact ⟨rfl, rfl⟩
set_option maxRecDepth 100000 in
set_option maxHeartbeats 1000000 in
theorem equalT_any (a1 a2 : Option Addr) (c1 c2 : Nat) (xs ys : List Tk) (w : World) (h1 : TAt w a1 xs) (h2 : TAt w a2 ys) (hl : xs.length ≤ 1048576) :
    Calls Tryz.prog 36 #[.slice a1 xs.length c1, .slice a2 ys.length c2, .func (.func 37) #[] #[]] w fun e w' => e = .returned (.bool (sameTs xs ys)) ∧ Below w.heap.size w w' := by
  by_cases hn : xs.length = ys.length
  · have HI := hid (sameTs_iff xs ys hn)
    rw [← hn]
    obtain ⟨n, hxn⟩ : ∃ n, xs.length = n := ⟨_, rfl⟩
    rw [hxn]
    have HX := hid hxn
    have HY := hid (hn.symm.trans hxn)
    have HS := hid (fun x y W => same1_any x y W)
    have eg : ∀ args w, (callFunc 37 args).run Tryz.prog w = .ok (.enter 37 args) w := enters_of Tryz.func37 (by kernel_rfl) rfl
    rw [hxn] at hl
    have H1 := hid h1
    have H2 := hid h2
    clear hn hxn h1 h2
    go_enter Tryz.func36, Tryz.ntmps36
    go_wp2_with fail
    go_loopw [17] (fun s17 wr => ∃ i : Nat, s17 = .int .i64 (i : Int) ∧ i ≤ n ∧ Hid (Below w.heap.size w wr) ∧ Hid (∀ (j : Nat) x y, j < i → xs[j]? = some x → ys[j]? = some y → sameT x y = true)) (fun s17 _ => n - (intOf s17).toNat)
    case atStart => exact ⟨0, rfl, Nat.zero_le _, hid (Below.refl _ _), hid (fun j x y h => absurd h (Nat.not_lt_zero _))⟩
    case round =>
      obtain ⟨i, rfl, hi, HB, HA⟩ := hrel
      by_cases hlt : i < n
      · obtain ⟨x, hx⟩ : ∃ x, xs[i]? = some x := ⟨_, List.getElem?_eq_getElem (by rw [HX.out]; exact hlt)⟩
        obtain ⟨y, hy⟩ : ∃ y, ys[i]? = some y := ⟨_, List.getElem?_eq_getElem (by rw [HY.out]; exact hlt)⟩
        rcases H1.out with h0 | ⟨b1, o1, rfl, hb1, hc1⟩
        · rw [h0] at hx; cases hx
        rcases H2.out with h0 | ⟨b2, o2, rfl, hb2, hc2⟩
        · rw [h0] at hy; cases hy
        have hd1 := tk_cells (w := wr) (fun k v hv => (HB.out.cell (p := ⟨b1, _, none⟩) hb1).trans (hc1 i _ hx k v hv))
        have hd2 := tk_cells (w := wr) (fun k v hv => (HB.out.cell (p := ⟨b2, _, none⟩) hb2).trans (hc2 i _ hy k v hv))
        have hbb1 : b1 < wr.heap.size := Nat.lt_of_lt_of_le hb1 HB.out.size
        have hbb2 : b2 < wr.heap.size := Nat.lt_of_lt_of_le hb2 HB.out.size
        have HXI := hid hx
        have HYI := hid hy
        obtain ⟨p0, p1, p2, p3, p4, p5, p6, p7, p8, p9, p10⟩ := hd1
        obtain ⟨q0, q1, q2, q3, q4, q5, q6, q7, q8, q9, q10⟩ := hd2
        have HSX := hid (fun W => HS.out x y W)
        dsimp only [encT] at HSX
        have hii : (i : Int) < (n : Int) := by omega
        have hi0 : (0 : Int) ≤ (i : Int) := by omega
        clear hc1 hc2 hx hy HS H1 H2 hb1 hb2
        have HBn : Hid (∀ u v : Obj, Below w.heap.size w ((wr.alloc u).alloc v)) := fun u v => (HB.out.alloc HB.out.size u).alloc (by simp; have := HB.out.size; omega) v
        have hip : IntKind.i64.wrap ((i : Int) + 1) = (i : Int) + 1 := by rw [IntKind.wrap_i64]; omega
        have hiw : wrap64 ((i : Int) + 1) = (i : Int) + 1 := by unfold wrap64; omega
        rcases hq : sameT x y with _ | _
        · rw [hq] at HSX
          have HQ := hid hq
          clear hq
          go_wp2_with fail
          refine (HSX.out _).mono ?_
          rintro e w2 ⟨rfl, hb2⟩
          have HB2 := hid ((HBn.out _ _).trans (hb2.mono (HBn.out _ _).size))
          clear hb2 p0 p1 p2 p3 p4 p5 p6 p7 p8 p9 p10 q0 q1 q2 q3 q4 q5 q6 q7 q8 q9 q10
          go_wp2_with fail
          go_ret
          refine ⟨?_, HB2.out⟩
          have : sameTs xs ys = false := by
            rcases h : sameTs xs ys with _ | _
            · rfl
            · exact absurd (HI.out.1 h i x y HXI.out HYI.out) (by rw [HQ.out]; decide)
          rw [this]
          rfl
        · rw [hq] at HSX
          have HQ := hid hq
          clear hq
          go_wp2_with fail
          refine (HSX.out _).mono ?_
          rintro e w2 ⟨rfl, hb2⟩
          have HB2 := hid ((HBn.out _ _).trans (hb2.mono (HBn.out _ _).size))
          clear hb2 p0 p1 p2 p3 p4 p5 p6 p7 p8 p9 p10 q0 q1 q2 q3 q4 q5 q6 q7 q8 q9 q10
          go_wp2_with fail
          exact ⟨⟨i + 1, by go_num, hlt, HB2, hid (fun j x' y' hj hx' hy' => by
            by_cases e : j = i
            · subst e
              rw [HXI.out] at hx'
              rw [HYI.out] at hy'
              cases hx'
              cases hy'
              exact HQ.out
            · exact HA.out j x' y' (by omega) hx' hy')⟩, by simp [intOf]; omega⟩
      · have hin : i = n := by omega
        subst hin
        have hii : ¬ ((i : Int) < (i : Int)) := by omega
        go_wp2_with fail
        go_ret
        refine ⟨?_, HB.out⟩
        rw [HI.out.2 (fun j x y hx hy => HA.out j x y (by rw [← HX.out]; exact (List.getElem?_eq_some_iff.1 hx).1) hx hy)]
        rfl
  · have : sameTs xs ys = false := by
      rcases h : sameTs xs ys with _ | _
      · rfl
      · exact absurd (sameTs_len xs ys h) hn
    rw [this]
    refine (equalT_lens a1 a2 _ _ c1 c2 _ w hn).mono ?_
    rintro e w' ⟨rfl, rfl⟩
    exact ⟨rfl, Below.refl _ _⟩

/-- Whether two macros are written alike. -/
def sameM (x y : Mc) : Bool := (x.name.toList == y.name.toList) && (x.call == y.call) && (x.more == y.more) && decide (x.params = y.params) && sameTs x.body y.body
theorem drewN_below (w : World) : ∀ q, Below w.heap.size w (w.drewN q) := fun q => by
  induction q with
  | zero => exact Below.refl _ _
  | succ q ih => exact ih.drew
set_option maxRecDepth 100000 in
theorem equalS_any (a1 a2 : Option Addr) (c1 c2 : Nat) (xs ys : List ByteArray) (w : World) (h1 : StAt w a1 xs) (h2 : StAt w a2 ys) (hl : xs.length ≤ 1048576) (hl2 : ys.length ≤ 1048576) :
    Calls Tryz.prog 35 #[.slice a1 xs.length c1, .slice a2 ys.length c2] w fun e w' => e = .returned (.bool (decide (xs = ys))) ∧ Below w.heap.size w w' := by
  rcases h1 with rfl | ⟨b1, o1, rfl, hb1, hc1⟩
  · refine (Any.slices_Equal_string_empty Tryz.layEqualS a1 a2 c1 ys.length c2 w (by omega)).mono ?_
    rintro e w' ⟨rfl, rfl⟩
    refine ⟨?_, Below.refl _ _⟩
    have : (decide (ys.length = 0)) = decide (([] : List ByteArray) = ys) := by
      cases ys <;> simp
    rw [this]
  · rcases h2 with rfl | ⟨b2, o2, rfl, hb2, hc2⟩
    · by_cases hx : xs = []
      · subst hx
        refine (Any.slices_Equal_string_empty Tryz.layEqualS _ a2 c1 0 c2 w (by omega)).mono ?_
        rintro e w' ⟨rfl, rfl⟩
        exact ⟨rfl, Below.refl _ _⟩
      · refine (Any.slices_Equal_string_lens Tryz.layEqualS _ a2 xs.length c1 0 c2 w (fun h => hx (List.eq_nil_of_length_eq_zero h))).mono ?_
        rintro e w' ⟨rfl, rfl⟩
        exact ⟨by rw [decide_eq_false hx], Below.refl _ _⟩
    · refine (Any.slices_Equal_string Tryz.layEqualS b1 o1 xs.length c1 b2 o2 ys.length c2 xs ys w (Nat.le_refl _) (Nat.le_refl _) (by omega) (by omega) (fun j hj => ?_) (fun j hj => ?_)).mono ?_
      · exact hc1 j _ (by simp [List.getD, List.getElem?_eq_getElem hj])
      · exact hc2 j _ (by simp [List.getD, List.getElem?_eq_getElem hj])
      · rintro e w' ⟨rfl, q, rfl⟩
        rw [List.take_length, List.take_length]
        exact ⟨rfl, drewN_below w q⟩

theorem two_blocks (w : World) (X Y : Obj) : ((w.alloc X).alloc Y).heap[w.heap.size]? = some X ∧ ((w.alloc X).alloc Y).heap[w.heap.size + 1]? = some Y :=
  ⟨(((Below.refl _ (w.alloc X)).alloc (Nat.le_refl _) Y).block _ (by simp)).trans (heap_alloc_new w X), by have := heap_alloc_new (w.alloc X) Y; simpa using this⟩
set_option maxRecDepth 100000 in
set_option maxHeartbeats 1000000 in
/-- Same: whether two macros are written alike. -/
theorem Same_any (x y : Mv) (mx my : Mc) (w : World) (hx : MIs w x mx) (hy : MIs w y my) (l1 : mx.params.length ≤ 1048576) (l2 : my.params.length ≤ 1048576) (l3 : mx.body.length ≤ 1048576) :
    Calls Tryz.prog 11 #[aggM x, aggM y] w fun e w' => e = .returned (.bool (sameM mx my)) ∧ Below w.heap.size w w' := by
  have HB0 : Hid (∀ u v : Obj, Below w.heap.size w ((w.alloc u).alloc v)) := fun u v => ((Below.refl _ w).alloc (Nat.le_refl _) u).alloc (by simp) v
  have HE := hid (fun W (h : Below w.heap.size w W) => equalS_any x.pa y.pa x.pc y.pc mx.params my.params W (hx.pars.below h) (hy.pars.below h) l1 l2)
  have HT := hid (fun W (h : Below w.heap.size w W) => equalT_any x.ba y.ba x.bc y.bc mx.body my.body W (hx.body.below h) (hy.body.below h) l3)
  rw [← hx.pn, ← hy.pn] at HE
  rw [← hx.bn, ← hy.bn] at HT
  unfold sameM aggM
  rw [← hx.name, ← hy.name, ← hx.call, ← hy.call, ← hx.more, ← hy.more]
  generalize decide (mx.params = my.params) = pb at HE ⊢
  generalize sameTs mx.body my.body = tb at HT ⊢
  clear hx hy l1 l2 l3
  obtain ⟨xn, xc, xpa, xpn, xpc, xm, xba, xbn, xbc⟩ := x
  obtain ⟨yn, yc, ypa, ypn, ypc, ym, yba, ybn, ybc⟩ := y
  dsimp only at HE HT ⊢
  rcases h1 : (xn.toList == yn.toList) with _ | _
  · go_enter Tryz.func11, Tryz.ntmps11
    go_wp2_with fail
    go_ret
    exact ⟨rfl, HB0.out _ _⟩
  rcases h2 : (xc == yc) with _ | _
  · go_enter Tryz.func11, Tryz.ntmps11
    go_wp2_with fail
    go_ret
    exact ⟨rfl, HB0.out _ _⟩
  rcases h3 : (xm == ym) with _ | _
  · go_enter Tryz.func11, Tryz.ntmps11
    go_wp2_with fail
    go_ret
    exact ⟨rfl, HB0.out _ _⟩
  rcases pb with _ | _
  · go_enter Tryz.func11, Tryz.ntmps11
    go_wp2_with fail
    refine (HE.out _ (HB0.out _ _)).mono ?_
    rintro e w1 ⟨rfl, hb1⟩
    have HB1 := hid ((HB0.out _ _).trans (hb1.mono (HB0.out _ _).size))
    clear hb1
    go_wp2_with fail
    go_ret
    exact ⟨rfl, HB1.out⟩
  · go_enter Tryz.func11, Tryz.ntmps11
    go_wp2_with fail
    refine (HE.out _ (HB0.out _ _)).mono ?_
    rintro e w1 ⟨rfl, hb1⟩
    have HB1 := hid ((HB0.out _ _).trans (hb1.mono (HB0.out _ _).size))
    have hq1 : w1.cell? ⟨w.heap.size, 4, none⟩ = some (.slice xba xbn xbc) := (hb1.cell (p := ⟨w.heap.size, 4, none⟩) (by simp; omega)).trans (by rw [Go.Joins.cell_of_block (two_blocks w _ _).1]; rfl)
    have hq2 : w1.cell? ⟨w.heap.size + 1, 4, none⟩ = some (.slice yba ybn ybc) := (hb1.cell (p := ⟨w.heap.size + 1, 4, none⟩) (by simp)).trans (by rw [Go.Joins.cell_of_block (two_blocks w _ _).2]; rfl)
    clear hb1
    go_wp2_with fail
    refine (HT.out _ HB1.out).mono ?_
    rintro e w2 ⟨rfl, hb2⟩
    have HB2 := hid (HB1.out.trans (hb2.mono HB1.out.size))
    clear hb2 hq1 hq2
    go_wp2_with fail
    go_ret
    exact ⟨rfl, HB2.out⟩
end
section
open Go.RowKit Go.Shelf

/-- What the search gives: -1 and no hit, or the first hit's place. -/
theorem idx_spec (p : Mv → Bool) : ∀ (l : List Mv) (i : Nat), (Lib.idxByFrom (fun _ y => p y) default l i = -1 ∧ ∀ v ∈ l, p v = false) ∨ ∃ k v, l[k]? = some v ∧ Lib.idxByFrom (fun _ y => p y) default l i = ((i + k : Nat) : Int) ∧ p v = true ∧ ∀ j u, j < k → l[j]? = some u → p u = false
  | [], _ => .inl ⟨rfl, fun v hv => by cases hv⟩
  | y :: r, i => by
    cases h : p y with
    | true => exact .inr ⟨0, y, rfl, by simp [Lib.idxByFrom, h], h, fun j u hj => absurd hj (Nat.not_lt_zero _)⟩
    | false =>
      rcases idx_spec p r (i + 1) with ⟨e, ha⟩ | ⟨k, v, hk, e, ht, ha⟩
      · refine .inl ⟨by simp [Lib.idxByFrom, h, e], fun v hv => ?_⟩
        rcases List.mem_cons.1 hv with rfl | hv
        · exact h
        · exact ha v hv
      · refine .inr ⟨k + 1, v, by simpa using hk, by simp only [Lib.idxByFrom, h]; rw [show (if false = true then (i : Int) else Lib.idxByFrom (fun _ y => p y) default r (i + 1)) = Lib.idxByFrom (fun _ y => p y) default r (i + 1) from rfl, e]; congr 1; omega, ht, fun j u hj hu => ?_⟩
        cases j with
        | zero => simp at hu; subst hu; exact h
        | succ j => exact ha j u (by omega) (by simpa using hu)
theorem find_spec (vs : List Mv) (n : List UInt8) : (findV vs n = -1 ∧ ∀ v ∈ vs, (v.name.toList == n) = false) ∨ ∃ (k : Nat) (v : Mv), vs[k]? = some v ∧ findV vs n = (k : Int) ∧ (v.name.toList == n) = true ∧ ∀ (j : Nat) (u : Mv), j < k → vs[j]? = some u → (u.name.toList == n) = false := by
  rcases idx_spec (fun y => y.name.toList == n) vs 0 with h | ⟨k, v, h1, h2, h3, h4⟩
  · exact .inl h
  · exact .inr ⟨k, v, h1, by unfold findV Lib.idxBy; rw [h2]; simp, h3, h4⟩

/-- What Define leaves of the values, and what it says. -/
def defV (vs : List Mv) (ms : List Mc) (x : Mv) (m : Mc) : List Mv × Int := match ms[(findV vs x.name.toList).toNat]? with
  | some o => if findV vs x.name.toList = -1 then (if 30 ≤ vs.length then ([], 5) else (vs ++ [x], 0)) else if sameM o m then (vs, 0) else ([], 7)
  | none => if 30 ≤ vs.length then ([], 5) else (vs ++ [x], 0)
theorem defV_new (vs : List Mv) (ms : List Mc) (x : Mv) (m : Mc) (h : findV vs x.name.toList = -1) : defV vs ms x m = if 30 ≤ vs.length then ([], 5) else (vs ++ [x], 0) := by
  unfold defV
  rw [h]
  cases ms[(-1 : Int).toNat]? with
  | none => rfl
  | some o => simp
theorem defV_old (vs : List Mv) (ms : List Mc) (x : Mv) (m : Mc) (k : Nat) (o : Mc) (h : findV vs x.name.toList = (k : Int)) (ho : ms[k]? = some o) : defV vs ms x m = if sameM o m then (vs, 0) else ([], 7) := by
  unfold defV
  rw [h, Int.toNat_natCast, ho]
  dsimp only
  rw [if_neg (by omega)]
def DefPost (w : World) (r : List Mv × Int) (e : Ending) (w' : World) : Prop := ∃ a' c', e = .returned (.tuple #[.slice a' r.1.length c', .int .i64 r.2]) ∧ MsAt w' a' r.1 ∧ Below w.heap.size w w'
/-- Bounds that any limits keep. -/
def Few (m : Mc) : Prop := m.params.length ≤ 1048576 ∧ m.body.length ≤ 1048576

theorem mac_facts {W : World} {B : Nat} {n : ByteArray} {b0 b1 : Bool} {a1 a2 : Option Addr} {n1 c1 n2 c2 : Nat} {T : TypeId} (h : W.heap[B]? = some (.cells #[.string n, .bool b0, .slice a1 n1 c1, .bool b1, .slice a2 n2 c2] T)) :
    W.cell? ⟨B, 0, none⟩ = some (.string n) ∧ W.cell? ⟨B, 1, none⟩ = some (.bool b0) ∧ W.cell? ⟨B, 2, none⟩ = some (.slice a1 n1 c1) ∧ W.cell? ⟨B, 3, none⟩ = some (.bool b1) ∧ W.cell? ⟨B, 4, none⟩ = some (.slice a2 n2 c2) := by
  simp [World.cell?, h]
set_option maxRecDepth 100000 in
set_option maxHeartbeats 2000000 in
theorem Define_any (a : Option Addr) (c : Nat) (vs : List Mv) (ms : List Mc) (x : Mv) (m : Mc) (w : World) (hM : MsAt w a vs) (hI : MsIs w vs ms) (hx : MIs w x m) (hl : vs.length ≤ 1048575) (hf : ∀ o ∈ ms, Few o) (hm : Few m) :
    Calls Tryz.prog 13 #[.slice a vs.length c, aggM x] w (DefPost w (defV vs ms x m)) := by
  have hb0 : Below w.heap.size w (w.alloc (.cells #[.string x.name, .bool x.call, .slice x.pa x.pn x.pc, .bool x.more, .slice x.ba x.bn x.bc] 26)) := (Below.refl _ w).alloc (Nat.le_refl _) _
  have HB0 := hid hb0
  have HFi := hid (Find_any a c vs x.name _ (hM.below hb0) (by omega))
  have HM := hid hM
  rcases find_spec vs x.name.toList with ⟨hfd, _⟩ | ⟨k, v, hk, hfd, _, _⟩
  · rw [defV_new vs ms x m hfd]
    rw [hfd] at HFi
    clear hI hx hf hm hM hfd hb0
    by_cases h30 : 30 ≤ vs.length
    · rw [if_pos h30]
      have hi30 : (30 : Int) ≤ (vs.length : Int) := by omega
      unfold aggM
      go_enter Tryz.func13, Tryz.ntmps13
      go_wp2_with fail
      refine HFi.out.mono ?_
      rintro e w1 ⟨rfl, hb1⟩
      have HB1 := hid (HB0.out.trans (hb1.mono HB0.out.size))
      have hbx := (hb1.block w.heap.size (by simp)).trans (heap_alloc_new w _)
      clear hb1
      go_wp2_with fail
      have hnn : Nonempty (Later w1) := ⟨⟨_, Below.refl _ _⟩⟩
      refine region_later (by kernel_rfl) (by kernel_rfl) ?_
      repeat (first | go_big_quiet_step (fail) | quiet_step (fail))
      refine wpQuiet_nil ?_
      rintro _ ⟨p, rfl⟩
      have HB2 := hid (HB1.out.trans (p.hb.mono HB1.out.size))
      have hbx2 := (p.hb.block _ (lt_of_block hbx)).trans hbx
      generalize p.W = w2 at HB2 hbx2 ⊢
      go_wp2_with fail
      go_ret2
      exact ⟨none, 0, rfl, .inl ⟨rfl, rfl⟩, HB2.out⟩
    · rw [if_neg h30]
      have hi30 : ¬ (30 : Int) ≤ (vs.length : Int) := by omega
      unfold aggM
      go_enter Tryz.func13, Tryz.ntmps13
      go_wp2_with fail
      refine HFi.out.mono ?_
      rintro e w1 ⟨rfl, hb1⟩
      have HB1 := hid (HB0.out.trans (hb1.mono HB0.out.size))
      have hbx := (hb1.block w.heap.size (by simp)).trans (heap_alloc_new w _)
      clear hb1
      go_wp2_with fail
      have hnn : Nonempty (Later w1) := ⟨⟨_, Below.refl _ _⟩⟩
      refine region_later (by kernel_rfl) (by kernel_rfl) ?_
      repeat (first | go_big_quiet_step (fail) | quiet_step (fail))
      refine wpQuiet_nil ?_
      rintro _ ⟨p, rfl⟩
      have HB2 := hid (HB1.out.trans (p.hb.mono HB1.out.size))
      have hbx2 := (p.hb.block _ (lt_of_block hbx)).trans hbx
      generalize p.W = w2 at HB2 hbx2 ⊢
      obtain ⟨q0, q1, q2, q3, q4⟩ := mac_facts hbx2
      obtain ⟨N, hN⟩ : ∃ N, (vs ++ [x]).length = N := ⟨_, rfl⟩
      have HNN := hid hN
      clear hN
      have HCo : Hid (∀ X L : Obj, X = .cells #[.string x.name, .bool x.call, .slice x.pa x.pn x.pc, .bool x.more, .slice x.ba x.bn x.bc] 26 → L = .cells #[.slice a vs.length c, .slice (some ⟨w2.heap.size, 0, none⟩) 1 1] 23 → Calls Tryz.prog 39 #[.slice (some ⟨w2.heap.size + 1, 0, none⟩) 2 2] ((w2.alloc X).alloc L) fun e w' => ∃ v', e = .returned v' ∧ w'.ownsRow ((w2.alloc X).alloc L).heap.size 26 5 v' N (cellsM (vs ++ [x])) ∧ Below ((w2.alloc X).alloc L).heap.size ((w2.alloc X).alloc L) w') := by
        intro X L hX hL
        subst hX
        subst hL
        generalize hXX : Obj.cells #[.string x.name, .bool x.call, .slice x.pa x.pn x.pc, .bool x.more, .slice x.ba x.bn x.bc] 26 = X
        generalize hLL : Obj.cells #[.slice a vs.length c, .slice (some ⟨w2.heap.size, 0, none⟩) 1 1] 23 = L
        obtain ⟨t1, t2⟩ := two_blocks w2 X L
        have hX : ((w2.alloc X).alloc L).heap[w2.heap.size]? = some (.cells #[.string x.name, .bool x.call, .slice x.pa x.pn x.pc, .bool x.more, .slice x.ba x.bn x.bc] 26) := by rw [t1, hXX]
        have hL : ((w2.alloc X).alloc L).heap[w2.heap.size + 1]? = some (.cells #[.slice a vs.length c, .slice (some ⟨w2.heap.size, 0, none⟩) 1 1] 23) := by rw [t2, hLL]
        have hbb : Below w2.heap.size w2 ((w2.alloc X).alloc L) := ((Below.refl _ w2).alloc (Nat.le_refl _) X).alloc (by simp) L
        have := Concat_two (w2.heap.size + 1) a c vs x w2.heap.size ((w2.alloc X).alloc L) (by rw [Go.Joins.cell_of_block hL]; rfl) (by rw [Go.Joins.cell_of_block hL]; rfl) (by simp) ((HM.out.below HB2.out).below hbb) (fun i v hv => by rw [Go.Joins.cell_of_block hX, ← Array.getElem?_toList]; exact hv) (by simp; omega) (by omega)
        rw [← HNN.out, List.length_append]
        exact this
      have HBn : Hid (∀ X L : Obj, Below w.heap.size w ((w2.alloc X).alloc L)) := fun X L => (HB2.out.alloc HB2.out.size X).alloc (by have := HB2.out.size; simp; omega) L
      go_wp2_with fail
      refine (HCo.out _ _ rfl rfl).mono ?_
      rintro e w3 ⟨v', rfl, hown, hb3⟩
      rw [← HNN.out] at hown
      obtain ⟨a', c', hv', hMA⟩ := MsAt.of_row hown
      rw [HNN.out] at hv'
      subst hv'
      have HMA := hid hMA
      have HB3 := hid ((HBn.out _ _).trans (hb3.mono (HBn.out _ _).size))
      clear hown hMA hb3
      go_wp2_with fail
      go_ret2
      exact ⟨a', c', by show _ = Ending.returned (.tuple #[.slice a' (vs ++ [x]).length c', _]); rw [HNN.out]; rfl, HMA.out, HB3.out⟩
  · have hkl : k < vs.length := (List.getElem?_eq_some_iff.1 hk).1
    obtain ⟨o, ho⟩ : ∃ o, ms[k]? = some o := ⟨_, List.getElem?_eq_getElem (by rw [← hI.1]; exact hkl)⟩
    rw [defV_old vs ms x m k o hfd ho]
    rw [hfd] at HFi
    have HSa := hid (fun W (h : Below w.heap.size w W) => Same_any v x o m W ((hI.2 k v o hk ho).below h) (hx.below h) (hf o (List.mem_of_getElem? ho)).1 hm.1 (hf o (List.mem_of_getElem? ho)).2)
    unfold aggM at HSa
    have HCl := hid (fun W (h : Below w.heap.size w W) => Clone_any a c vs W (hM.below h) (by omega))
    rcases hM with ⟨hv0, _⟩ | ⟨b, off, rfl, hb, hc⟩
    · rw [hv0] at hk; cases hk
    have hcv := hc k v hk
    have hki : (k : Int) < (vs.length : Int) := by omega
    have hk0 : (0 : Int) ≤ (k : Int) := by omega
    clear hI hx hf hm hfd hb0 hc hk ho
    rcases hsb : sameM o m with _ | _
    · rw [hsb] at HSa
      rw [if_neg (by decide)]
      unfold aggM
      go_enter Tryz.func13, Tryz.ntmps13
      go_wp2_with fail
      refine HFi.out.mono ?_
      rintro e w1 ⟨rfl, hb1⟩
      have HB1 := hid (HB0.out.trans (hb1.mono HB0.out.size))
      have hbx := (hb1.block w.heap.size (by simp)).trans (heap_alloc_new w _)
      clear hb1
      have hcw : ∀ (i : Nat) u, (encM v)[i]? = some u → w1.cell? ⟨b, off + k * 5 + i, none⟩ = some u := fun i u hu => (HB1.out.cell (p := ⟨b, _, none⟩) hb).trans (hcv i u hu)
      obtain ⟨q0, q1, q2, q3, q4⟩ := mac_facts hbx
      have r0 := Later.cell (hcw 0 _ rfl)
      have r1 := Later.cell (hcw 1 _ rfl)
      have r2 := Later.cell (hcw 2 _ rfl)
      have r3 := Later.cell (hcw 3 _ rfl)
      have r4 := Later.cell (hcw 4 _ rfl)
      simp only [Nat.add_zero] at r0
      have u0 := Later.cell q0
      have u1 := Later.cell q1
      have u2 := Later.cell q2
      have u3 := Later.cell q3
      have u4 := Later.cell q4
      clear hcw hcv q0 q1 q2 q3 q4
      have hnn : Nonempty (Later w1) := ⟨⟨_, Below.refl _ _⟩⟩
      have HSL : Hid (∀ p : Later w1, Below w.heap.size w p.W) := fun p => HB1.out.trans (p.hb.mono HB1.out.size)
      go_wp2_with fail
      refine region_later (by kernel_rfl) (by kernel_rfl) ?_
      repeat (quiet_step ((go_at_call 11; exact Calls.later (HSa.out _ (HSL.out _)))))
      refine wpQuiet_nil ?_
      rintro _ ⟨p, rfl⟩
      have HB2 := hid (HSL.out p)
      clear r0 r1 r2 r3 r4 u0 u1 u2 u3 u4 hnn HSL HSa
      generalize p.W = w2 at HB2 ⊢
      go_wp2_with fail
      go_ret2
      exact ⟨none, 0, rfl, .inl ⟨rfl, rfl⟩, HB2.out⟩
    · rw [hsb] at HSa
      rw [if_pos rfl]
      unfold aggM
      go_enter Tryz.func13, Tryz.ntmps13
      go_wp2_with fail
      refine HFi.out.mono ?_
      rintro e w1 ⟨rfl, hb1⟩
      have HB1 := hid (HB0.out.trans (hb1.mono HB0.out.size))
      have hbx := (hb1.block w.heap.size (by simp)).trans (heap_alloc_new w _)
      clear hb1
      have hcw : ∀ (i : Nat) u, (encM v)[i]? = some u → w1.cell? ⟨b, off + k * 5 + i, none⟩ = some u := fun i u hu => (HB1.out.cell (p := ⟨b, _, none⟩) hb).trans (hcv i u hu)
      obtain ⟨q0, q1, q2, q3, q4⟩ := mac_facts hbx
      have r0 := Later.cell (hcw 0 _ rfl)
      have r1 := Later.cell (hcw 1 _ rfl)
      have r2 := Later.cell (hcw 2 _ rfl)
      have r3 := Later.cell (hcw 3 _ rfl)
      have r4 := Later.cell (hcw 4 _ rfl)
      simp only [Nat.add_zero] at r0
      have u0 := Later.cell q0
      have u1 := Later.cell q1
      have u2 := Later.cell q2
      have u3 := Later.cell q3
      have u4 := Later.cell q4
      clear hcw hcv q0 q1 q2 q3 q4
      have hnn : Nonempty (Later w1) := ⟨⟨_, Below.refl _ _⟩⟩
      have HSL : Hid (∀ p : Later w1, Below w.heap.size w p.W) := fun p => HB1.out.trans (p.hb.mono HB1.out.size)
      go_wp2_with fail
      refine region_later (by kernel_rfl) (by kernel_rfl) ?_
      repeat (quiet_step ((go_at_call 11; exact Calls.later (HSa.out _ (HSL.out _)))))
      refine wpQuiet_nil ?_
      rintro _ ⟨p, rfl⟩
      have HB2 := hid (HSL.out p)
      clear r0 r1 r2 r3 r4 u0 u1 u2 u3 u4 hnn HSL HSa
      generalize p.W = w2 at HB2 ⊢
      go_wp2_with fail
      refine (HCl.out _ HB2.out).mono ?_
      rintro e w3 ⟨v', rfl, hown, hb3⟩
      obtain ⟨a', c', rfl, hMA⟩ := MsAt.of_row hown
      have HMA := hid hMA
      have HB3 := hid (HB2.out.trans (hb3.mono HB2.out.size))
      clear hown hMA hb3
      go_wp2_with fail
      go_ret2
      exact ⟨a', c', rfl, HMA.out, HB3.out⟩
end
section
open Go.RowKit Go.Shelf

/-- Those that stay. -/
def stay (n : List UInt8) (vs : List Mv) : List Mv := vs.filter fun v => !(v.name.toList == n)

/-- Five cells written. -/
def set5 (cur : Array Value) (o : Nat) (x : Mv) : Array Value := ((((cur.setIfInBounds o (.string x.name)).setIfInBounds (o + 1) (.bool x.call)).setIfInBounds (o + 2) (.slice x.pa x.pn x.pc)).setIfInBounds (o + 3) (.bool x.more)).setIfInBounds (o + 4) (.slice x.ba x.bn x.bc)
theorem set5_size (cur : Array Value) (o : Nat) (x : Mv) : (set5 cur o x).size = cur.size := by simp [set5]
theorem set5_out (cur : Array Value) (o : Nat) (x : Mv) (t : Nat) (h : t < o ∨ o + 5 ≤ t) : (set5 cur o x)[t]? = cur[t]? := by
  unfold set5
  rw [Array.getElem?_setIfInBounds_ne (by omega), Array.getElem?_setIfInBounds_ne (by omega), Array.getElem?_setIfInBounds_ne (by omega), Array.getElem?_setIfInBounds_ne (by omega), Array.getElem?_setIfInBounds_ne (by omega)]
theorem set5_in (cur : Array Value) (o : Nat) (x : Mv) (h : o + 5 ≤ cur.size) : ∀ (i : Nat) v, (encM x)[i]? = some v → (set5 cur o x)[o + i]? = some v := by
  intro i v hv
  match i, hv with
  | 0, hv =>
    cases hv
    unfold set5
    rw [Array.getElem?_setIfInBounds_ne (by omega), Array.getElem?_setIfInBounds_ne (by omega), Array.getElem?_setIfInBounds_ne (by omega), Array.getElem?_setIfInBounds_ne (by omega)]
    simp [Array.getElem?_setIfInBounds]; omega
  | 1, hv =>
    cases hv
    unfold set5
    rw [Array.getElem?_setIfInBounds_ne (by omega), Array.getElem?_setIfInBounds_ne (by omega), Array.getElem?_setIfInBounds_ne (by omega)]
    simp [Array.getElem?_setIfInBounds]; omega
  | 2, hv =>
    cases hv
    unfold set5
    rw [Array.getElem?_setIfInBounds_ne (by omega), Array.getElem?_setIfInBounds_ne (by omega)]
    simp [Array.getElem?_setIfInBounds]; omega
  | 3, hv =>
    cases hv
    unfold set5
    rw [Array.getElem?_setIfInBounds_ne (by omega)]
    simp [Array.getElem?_setIfInBounds]; omega
  | 4, hv =>
    cases hv
    unfold set5
    simp [Array.getElem?_setIfInBounds]; omega
  | i + 5, hv => simp [encM] at hv
theorem set5_take (cur : Array Value) (i : Nat) (x : Mv) (vs : List Mv) (h : i * 5 + 5 ≤ cur.size) (hi : i = vs.length) (ht : cur.toList.take (i * 5) = cellsM vs) : (set5 cur (i * 5) x).toList.take ((i + 1) * 5) = cellsM (vs ++ [x]) := by
  apply List.ext_getElem?
  intro t
  by_cases h1 : t < (i + 1) * 5
  · rw [List.getElem?_take_of_lt h1, Array.getElem?_toList, cellsM_append, cellsM_one]
    by_cases h2 : t < i * 5
    · rw [set5_out _ _ _ _ (.inl h2), List.getElem?_append_left (by rw [cellsM_length]; omega), ← ht, List.getElem?_take_of_lt h2, Array.getElem?_toList]
    · rw [List.getElem?_append_right (by rw [cellsM_length]; omega), cellsM_length, ← hi]
      have hm : t - i * 5 < (encM x).length := by rw [encM_length]; omega
      have := set5_in cur (i * 5) x h (t - i * 5) _ (List.getElem?_eq_getElem hm)
      rw [show i * 5 + (t - i * 5) = t by omega] at this
      rw [this, List.getElem?_eq_getElem hm]
  · rw [List.getElem?_eq_none (by rw [List.length_take]; omega), List.getElem?_eq_none (by rw [cellsM_length, List.length_append]; simp; omega)]
theorem stay_snoc (n : List UInt8) (vs : List Mv) (j : Nat) (x : Mv) (h : vs[j]? = some x) : stay n (vs.take (j + 1)) = if (x.name.toList == n) = true then stay n (vs.take j) else stay n (vs.take j) ++ [x] := by
  unfold stay
  rw [List.take_add_one, h, List.filter_append]
  rcases hx : (x.name.toList == n) with _ | _
  · simp [hx]
  · simp [hx]
theorem stay_len (n : List UInt8) (vs : List Mv) : (stay n vs).length ≤ vs.length := List.length_filter_le _ _
def DelPost (w : World) (vs : List Mv) (e : Ending) (w' : World) : Prop := ∃ a' c', e = .returned (.slice a' vs.length c') ∧ MsAt w' a' vs ∧ Below w.heap.size w w'
/-- What lies in the row while it is walked. -/
structure DelSt (w0 : World) (g cap : Nat) (vs : List Mv) (nm : ByteArray) (Bn : Nat) (i j : Nat) (W : World) : Prop where
  below : Below w0.heap.size w0 W
  name : W.cell? ⟨Bn, 0, none⟩ = some (.string nm)
  nlt : Bn < W.heap.size
  lt : i < j
  le : j ≤ vs.length
  len : i = (stay nm.toList (vs.take j)).length
  room : vs.length ≤ cap
  row : ∃ cur, W.heap[g]? = some (.cells cur 26 (0, 0)) ∧ cur.size = cap * 5 ∧ cur.toList.take (i * 5) = cellsM (stay nm.toList (vs.take j)) ∧ ∀ t, j * 5 ≤ t → t < vs.length * 5 → cur[t]? = (cellsM vs)[t]?

theorem not_m1 (k : Nat) : ((k : Int) == -1) = false := by rw [beq_eq_false_iff_ne]; omega
theorem nxt_k {k : Nat} (h : k ≤ 1048577) : IntKind.i64.wrap ((k : Int) + 1) = (k : Int) + 1 := by rw [IntKind.wrap_i64]; omega
theorem nxt_w {k : Nat} (h : k ≤ 1048577) : wrap64 ((k : Int) + 1) = (k : Int) + 1 := by unfold wrap64; omega
theorem del_start {w0 : World} {nm : ByteArray} {Bn g cap : Nat} {cur : Array Value} {vs : List Mv} {w : World} (hb : Below w0.heap.size w0 w) (hnm : w.cell? ⟨Bn, 0, none⟩ = some (.string nm)) (hBn : Bn < w.heap.size) (hrow : w.heap[g]? = some (.cells cur 26 (0, 0))) (hcs : cur.size = cap * 5) (hnc : vs.length ≤ cap) (hct : cur.toList.take (vs.length * 5) = cellsM vs) {k : Nat} {v : Mv} (hk : vs[k]? = some v) (hv : (v.name.toList == nm.toList) = true) (hbef : ∀ (j : Nat) (u : Mv), j < k → vs[j]? = some u → (u.name.toList == nm.toList) = false) {W : World} (hW : Below w.heap.size w W) : DelSt w0 g cap vs nm Bn k (k + 1) W := by
  have hkl : k < vs.length := (List.getElem?_eq_some_iff.1 hk).1
  have hpre : stay nm.toList (vs.take (k + 1)) = vs.take k := by
    unfold stay
    rw [List.take_add_one, hk, List.filter_append]
    have e1 : (vs.take k).filter (fun v => !(v.name.toList == nm.toList)) = vs.take k := by
      rw [List.filter_eq_self]
      intro u hu
      obtain ⟨j, hj, rfl⟩ := List.mem_iff_getElem.1 hu
      have hj' : j < k := by rw [List.length_take] at hj; omega
      rw [hbef j _ hj' (by rw [List.getElem_take, List.getElem?_eq_getElem])]
      rfl
    rw [e1]
    simp [hv]
  refine ⟨hb.trans (hW.mono hb.size), (hW.cell (p := ⟨Bn, 0, none⟩) hBn).trans hnm, Nat.lt_of_lt_of_le hBn hW.size, Nat.lt_succ_self _, hkl, by rw [hpre, List.length_take]; omega, hnc, cur, (hW.block g (lt_of_block hrow)).trans hrow, hcs, ?_, fun t _ ht => ?_⟩
  · rw [hpre]
    apply List.ext_getElem?
    intro t
    by_cases h1 : t < k * 5
    · rw [List.getElem?_take_of_lt h1]
      have h2 : (cellsM vs)[t]? = (cellsM (vs.take k))[t]? := by
        conv => lhs; rw [← List.take_append_drop k vs, cellsM_append]
        rw [List.getElem?_append_left (by rw [cellsM_length, List.length_take]; omega)]
      rw [← h2, ← hct, List.getElem?_take_of_lt (by omega)]
    · rw [List.getElem?_eq_none (by rw [List.length_take]; omega), List.getElem?_eq_none (by rw [cellsM_length, List.length_take]; omega)]
  · rw [← hct, List.getElem?_take_of_lt ht, Array.getElem?_toList]
theorem less_j {j n : Nat} (h : j < n) {x : Value} (hx : x = .int .i64 ((j : Int) + 1)) : n - (intOf x).toNat < n - (intOf (.int .i64 (j : Int))).toNat := by
  subst hx; simp [intOf]; omega
theorem alloc_below {W W2 : World} {o : Obj} (hb : Below (W.alloc o).heap.size (W.alloc o) W2) : Below W.heap.size W W2 := by
  have h0 : Below W.heap.size W (W.alloc o) := (Below.refl _ W).alloc (Nat.le_refl _) o
  exact h0.trans (hb.mono h0.size)
def boxM (x : Mv) : Obj := .cells #[.string x.name, .bool x.call, .slice x.pa x.pn x.pc, .bool x.more, .slice x.ba x.bn x.bc] 26
/-- The next one's cells. -/
theorem del_cells {w0 : World} {g cap : Nat} {vs : List Mv} {nm : ByteArray} {Bn i j : Nat} {W : World} (h : DelSt w0 g cap vs nm Bn i j W) {x : Mv} (hx : vs[j]? = some x) :
    W.cell? ⟨g, j * 5, none⟩ = some (.string x.name) ∧ W.cell? ⟨g, j * 5 + 1, none⟩ = some (.bool x.call) ∧ W.cell? ⟨g, j * 5 + 2, none⟩ = some (.slice x.pa x.pn x.pc) ∧ W.cell? ⟨g, j * 5 + 3, none⟩ = some (.bool x.more) ∧ W.cell? ⟨g, j * 5 + 4, none⟩ = some (.slice x.ba x.bn x.bc) := by
  have hj : j < vs.length := (List.getElem?_eq_some_iff.1 hx).1
  obtain ⟨cur, r1, r2, r3, r4⟩ := h.row
  have key : ∀ (i : Nat) v, i < 5 → (encM x)[i]? = some v → W.cell? ⟨g, j * 5 + i, none⟩ = some v := fun i v hi hv => by
    rw [Go.Joins.cell_of_block r1, r4 _ (by omega) (by omega)]
    exact cellsM_get vs j i x v hx hv
  exact ⟨key 0 _ (by omega) rfl, key 1 _ (by omega) rfl, key 2 _ (by omega) rfl, key 3 _ (by omega) rfl, key 4 _ (by omega) rfl⟩
theorem del_pred {w0 : World} {g cap : Nat} {vs : List Mv} {nm : ByteArray} {Bn i j : Nat} {W : World} (h : DelSt w0 g cap vs nm Bn i j W) (x : Mv) (o : Obj) :
    Calls Tryz.prog 60 #[.agg #[.string x.name, .bool x.call, .slice x.pa x.pn x.pc, .bool x.more, .slice x.ba x.bn x.bc], .pointer (some ⟨Bn, 0, none⟩)] (W.alloc o) fun e w' => e = .returned (.bool (x.name.toList == nm.toList)) ∧ Below (W.alloc o).heap.size (W.alloc o) w' := by
  have hb : Below W.heap.size W (W.alloc o) := (Below.refl _ W).alloc (Nat.le_refl _) o
  exact named_pred nm Bn (W.alloc o) (Nat.lt_of_lt_of_le h.nlt hb.size) ((hb.cell (p := ⟨Bn, 0, none⟩) h.nlt).trans h.name) (W.alloc o) x (Below.refl _ _)
/-- What was read lies in its box. -/
theorem del_box {w0 : World} {g cap : Nat} {vs : List Mv} {nm : ByteArray} {Bn i j : Nat} {W : World} (_h : DelSt w0 g cap vs nm Bn i j W) (x : Mv) {W2 : World} (hb : Below (W.alloc (boxM x)).heap.size (W.alloc (boxM x)) W2) :
    W2.cell? ⟨W.heap.size, 0, none⟩ = some (.string x.name) ∧ W2.cell? ⟨W.heap.size, 1, none⟩ = some (.bool x.call) ∧ W2.cell? ⟨W.heap.size, 2, none⟩ = some (.slice x.pa x.pn x.pc) ∧ W2.cell? ⟨W.heap.size, 3, none⟩ = some (.bool x.more) ∧ W2.cell? ⟨W.heap.size, 4, none⟩ = some (.slice x.ba x.bn x.bc) :=
  mac_facts ((hb.block W.heap.size (by simp)).trans (heap_alloc_new W _))
/-- What lay where the next one that stays is put. -/
theorem del_olds {w0 : World} {g cap : Nat} {vs : List Mv} {nm : ByteArray} {Bn i j : Nat} {W : World} (h : DelSt w0 g cap vs nm Bn i j W) {o : Obj} {W2 : World} (hb : Below (W.alloc o).heap.size (W.alloc o) W2) :
    (∃ v, W2.cell? ⟨g, i * 5, none⟩ = some v ∧ W2.frozen? ⟨g, i * 5, none⟩ = false) ∧ (∃ v, W2.cell? ⟨g, i * 5 + 1, none⟩ = some v ∧ W2.frozen? ⟨g, i * 5 + 1, none⟩ = false) ∧ (∃ v, W2.cell? ⟨g, i * 5 + 2, none⟩ = some v ∧ W2.frozen? ⟨g, i * 5 + 2, none⟩ = false) ∧ (∃ v, W2.cell? ⟨g, i * 5 + 3, none⟩ = some v ∧ W2.frozen? ⟨g, i * 5 + 3, none⟩ = false) ∧ (∃ v, W2.cell? ⟨g, i * 5 + 4, none⟩ = some v ∧ W2.frozen? ⟨g, i * 5 + 4, none⟩ = false) := by
  obtain ⟨cur, r1, r2, _, _⟩ := h.row
  have hlt := h.lt
  have hle := h.le
  have hro := h.room
  have hb0 : Below W.heap.size W (W.alloc o) := (Below.refl _ W).alloc (Nat.le_refl _) o
  have hbb := hb0.trans (hb.mono hb0.size)
  have r := (hbb.block g (lt_of_block r1)).trans r1
  have key : ∀ d, d < 5 → ∃ v, W2.cell? ⟨g, i * 5 + d, none⟩ = some v ∧ W2.frozen? ⟨g, i * 5 + d, none⟩ = false := fun d hd => by
    refine ⟨cur[i * 5 + d]'(by omega), by rw [Go.Joins.cell_of_block r]; exact Array.getElem?_eq_getElem _, ?_⟩
    simp [World.frozen?, r]
  exact ⟨key 0 (by omega), key 1 (by omega), key 2 (by omega), key 3 (by omega), key 4 (by omega)⟩
/-- What is left over is wiped. -/
theorem del_clear {w0 : World} {g cap : Nat} {vs : List Mv} {nm : ByteArray} {Bn i : Nat} {W : World} (h : DelSt w0 g cap vs nm Bn i vs.length W) (ty : TypeId) :
    (Builtin.clear_ #[23] ty #[.slice (some ⟨g, i * 5, none⟩) (vs.length - i) (cap - i)]).run Tryz.prog W = .ok (.tuple #[]) (W.setCells g (i * 5) (Builtin.zeroCells #[.string ByteArray.empty, .bool false, .slice none 0 0, .bool false, .slice none 0 0] (vs.length - i)).toList) := by
  obtain ⟨cur, r1, r2, _, _⟩ := h.row
  have hlt := h.lt
  have hro := h.room
  have hz : ∀ w, (zeroValue 26).run Tryz.prog w = .ok (.agg #[.string ByteArray.empty, .bool false, .slice none 0 0, .bool false, .slice none 0 0]) w := Tryz.zeroValue26
  have hlen : (Builtin.zeroCells #[.string ByteArray.empty, .bool false, .slice none 0 0, .bool false, .slice none 0 0] (vs.length - i)).toList.length = (vs.length - i) * 5 := by
    rw [Array.length_toList, zeroCells_size]
    rfl
  have hst := run_storeCells_cells (P := Tryz.prog) g (i * 5) (Builtin.zeroCells #[.string ByteArray.empty, .bool false, .slice none 0 0, .bool false, .slice none 0 0] (vs.length - i)).toList 0 W (fun j hj => by
      rw [hlen] at hj
      rw [Go.Joins.cell_of_block r1, Array.getElem?_eq_getElem (by omega)]
      rfl) (fun j hj => by simp [World.frozen?, r1]) (fun v hv => by
      rw [Array.mem_toList_iff] at hv
      unfold Builtin.zeroCells at hv
      rw [Array.mem_map] at hv
      obtain ⟨k, _, rfl⟩ := hv
      show (#[Value.string ByteArray.empty, .bool false, .slice none 0 0, .bool false, .slice none 0 0][k % 5]!).oneCell' = true
      have h5 : k % 5 < 5 := Nat.mod_lt _ (by decide)
      generalize k % 5 = r at h5
      match r, h5 with
      | 0, _ => rfl
      | 1, _ => rfl
      | 2, _ => rfl
      | 3, _ => rfl
      | 4, _ => rfl)
  simp only [Nat.add_zero] at hst
  obtain ⟨m, hm⟩ : ∃ m, vs.length - i = m + 1 := ⟨vs.length - i - 1, by omega⟩
  rw [hm] at hst ⊢
  have hcells : (Value.agg #[.string ByteArray.empty, .bool false, .slice none 0 0, .bool false, .slice none 0 0]).cells = #[.string ByteArray.empty, .bool false, .slice none 0 0, .bool false, .slice none 0 0] := rfl
  simp [Builtin.clear_, run_underlying Tryz.underlying23, hz, hcells, hst]
theorem below_setCells {w0 : World} {B g : Nat} (hg : B ≤ g) : ∀ (L : List Value) (o : Nat) (W : World), Below B w0 W → Below B w0 (W.setCells g o L)
  | [], _, _, h => h
  | v :: r, o, _, h => below_setCells hg r (o + 1) _ (h.setCell (p := ⟨g, o, none⟩) hg v)
theorem size_setCells (g : Nat) : ∀ (L : List Value) (o : Nat) (W : World), (W.setCells g o L).heap.size = W.heap.size
  | [], _, _ => rfl
  | v :: r, o, W => by
    have := size_setCells g r (o + 1) (W.setCell ⟨g, o, none⟩ v)
    rw [show W.setCells g o (v :: r) = (W.setCell ⟨g, o, none⟩ v).setCells g (o + 1) r from rfl, this]
    simp
/-- The end. -/
theorem del_end {w0 : World} {g cap : Nat} {vs : List Mv} {nm : ByteArray} {Bn i : Nat} {W : World} (h : DelSt w0 g cap vs nm Bn i vs.length W) (hg : w0.heap.size ≤ g) (L : List Value) :
    i = (stay nm.toList vs).length ∧ MsAt (W.setCells g (i * 5) L) (some ⟨g, 0, none⟩) (stay nm.toList vs) ∧ Below w0.heap.size w0 (W.setCells g (i * 5) L) := by
  obtain ⟨cur, r1, r2, r3, _⟩ := h.row
  have hlen := h.len
  rw [List.take_length] at hlen r3
  refine ⟨hlen, .inr ⟨g, 0, rfl, by rw [size_setCells]; exact lt_of_block r1, fun j x hx k v hv => ?_⟩, below_setCells hg L _ W h.below⟩
  have hj : j < (stay nm.toList vs).length := (List.getElem?_eq_some_iff.1 hx).1
  have hk : k < 5 := by have := (List.getElem?_eq_some_iff.1 hv).1; rwa [encM_length] at this
  rw [World.cell?_setCells_out g L (i * 5) W ⟨g, 0 + j * 5 + k, none⟩ (fun _ _ => .inl (by show 0 + j * 5 + k < i * 5; omega)), Go.Joins.cell_of_block r1, ← Array.getElem?_toList]
  have := cellsM_get _ j k x v hx hv
  rw [← r3, List.getElem?_take_of_lt (by omega)] at this
  rw [Nat.zero_add]
  exact this
/-- The next one goes. -/
theorem DelSt.skip {w0 : World} {g cap : Nat} {vs : List Mv} {nm : ByteArray} {Bn i j : Nat} {W : World} (h : DelSt w0 g cap vs nm Bn i j W) {x : Mv} (hx : vs[j]? = some x) (hn : (x.name.toList == nm.toList) = true) {W' : World} (hb : Below W.heap.size W W') : DelSt w0 g cap vs nm Bn i (j + 1) W' := by
  have e : stay nm.toList (vs.take (j + 1)) = stay nm.toList (vs.take j) := by rw [stay_snoc _ _ _ _ hx, if_pos hn]
  obtain ⟨cur, r1, r2, r3, r4⟩ := h.row
  exact ⟨h.below.trans (hb.mono h.below.size), (hb.cell (p := ⟨Bn, 0, none⟩) h.nlt).trans h.name, Nat.lt_of_lt_of_le h.nlt hb.size, Nat.lt_succ_of_lt h.lt, (List.getElem?_eq_some_iff.1 hx).1, by rw [e]; exact h.len, h.room, cur, (hb.block g (lt_of_block r1)).trans r1, r2, by rw [e]; exact r3, fun t h1 h2 => r4 t (by omega) h2⟩
/-- The world with five cells written. -/
def put5 (W : World) (g o : Nat) (x : Mv) : World := ((((W.setCell ⟨g, o, none⟩ (.string x.name)).setCell ⟨g, o + 1, none⟩ (.bool x.call)).setCell ⟨g, o + 2, none⟩ (.slice x.pa x.pn x.pc)).setCell ⟨g, o + 3, none⟩ (.bool x.more)).setCell ⟨g, o + 4, none⟩ (.slice x.ba x.bn x.bc)
/-- The next one stays. -/
theorem DelSt.keep {w0 : World} {g cap : Nat} {vs : List Mv} {nm : ByteArray} {Bn i j : Nat} {W : World} (h : DelSt w0 g cap vs nm Bn i j W) (hg : w0.heap.size ≤ g) (hne : Bn ≠ g) {x : Mv} (hx : vs[j]? = some x) (hn : (x.name.toList == nm.toList) = false) {W' : World} (hb : Below W.heap.size W W') : DelSt w0 g cap vs nm Bn (i + 1) (j + 1) (put5 W' g (i * 5) x) := by
  have hj : j < vs.length := (List.getElem?_eq_some_iff.1 hx).1
  have e : stay nm.toList (vs.take (j + 1)) = stay nm.toList (vs.take j) ++ [x] := by rw [stay_snoc _ _ _ _ hx, if_neg (by rw [hn]; decide)]
  obtain ⟨cur, r1, r2, r3, r4⟩ := h.row
  have hlt := h.lt
  have hcap := h.room
  have r1' := (hb.block g (lt_of_block r1)).trans r1
  have s1 := Go.Joins.block_setCell (i := i * 5) r1' (.string x.name)
  have s2 := Go.Joins.block_setCell (i := i * 5 + 1) s1 (.bool x.call)
  have s3 := Go.Joins.block_setCell (i := i * 5 + 2) s2 (.slice x.pa x.pn x.pc)
  have s4 := Go.Joins.block_setCell (i := i * 5 + 3) s3 (.bool x.more)
  have s5 := Go.Joins.block_setCell (i := i * 5 + 4) s4 (.slice x.ba x.bn x.bc)
  have hB := h.below.trans (hb.mono h.below.size)
  have hbk : (put5 W' g (i * 5) x).heap[Bn]? = W'.heap[Bn]? := by
    unfold put5
    rw [Below.heap_setCell _ _ _ Bn hne, Below.heap_setCell _ _ _ Bn hne, Below.heap_setCell _ _ _ Bn hne, Below.heap_setCell _ _ _ Bn hne, Below.heap_setCell _ _ _ Bn hne]
  have hnc : W'.cell? ⟨Bn, 0, none⟩ = some (.string nm) := (hb.cell (p := ⟨Bn, 0, none⟩) h.nlt).trans h.name
  refine ⟨((((hB.setCell (p := ⟨g, _, none⟩) hg _).setCell (p := ⟨g, _, none⟩) hg _).setCell (p := ⟨g, _, none⟩) hg _).setCell (p := ⟨g, _, none⟩) hg _).setCell (p := ⟨g, _, none⟩) hg _, ?_, ?_, by omega, hj, by rw [e, List.length_append, ← h.len]; rfl, hcap, set5 cur (i * 5) x, s5, by rw [set5_size]; exact r2, ?_, fun t h1 h2 => ?_⟩
  · simp only [World.cell?, hbk] at hnc ⊢
    exact hnc
  · have hlt' : Bn < W'.heap.size := Nat.lt_of_lt_of_le h.nlt hb.size
    have : W'.heap[Bn]? = some W'.heap[Bn] := Array.getElem?_eq_getElem hlt'
    rw [← hbk] at this
    exact (Array.getElem?_eq_some_iff.1 this).1
  · rw [e]
    exact set5_take cur i x _ (by omega) h.len r3
  · rw [set5_out _ _ _ _ (.inr (by omega))]
    exact r4 t (by omega) h2

set_option maxRecDepth 100000 in
set_option maxHeartbeats 2000000 in
theorem DeleteM_any (w0 : World) (nm : ByteArray) (Bn g cap : Nat) (cur : Array Value) (vs : List Mv) (w : World) (hb : Below w0.heap.size w0 w) (hg : w0.heap.size ≤ g) (hrow : w.heap[g]? = some (.cells cur 26 (0, 0))) (hcs : cur.size = cap * 5) (hnc : vs.length ≤ cap) (hct : cur.toList.take (vs.length * 5) = cellsM vs) (hnm : w.cell? ⟨Bn, 0, none⟩ = some (.string nm)) (hBn : Bn < w.heap.size) (hne : Bn ≠ g) (hl : vs.length ≤ 1048575) :
    Calls Tryz.prog 42 #[.slice (some ⟨g, 0, none⟩) vs.length cap, .func (.func 60) #[] #[.pointer (some ⟨Bn, 0, none⟩)]] w fun e w' => e = .returned (.slice (some ⟨g, 0, none⟩) (stay nm.toList vs).length cap) ∧ MsAt w' (some ⟨g, 0, none⟩) (stay nm.toList vs) ∧ Below w0.heap.size w0 w' := by
  have eg : ∀ args w, (callFunc 60 args).run Tryz.prog w = .ok (.enter 60 args) w := enters_of Tryz.func60 (by kernel_rfl) rfl
  have hM : MsAt w (some ⟨g, 0, none⟩) vs := .inr ⟨g, 0, rfl, lt_of_block hrow, fun j x hx i v hv => by
    have hj : j < vs.length := (List.getElem?_eq_some_iff.1 hx).1
    have hi : i < 5 := by have := (List.getElem?_eq_some_iff.1 hv).1; rwa [encM_length] at this
    have h1 := cellsM_get vs j i x v hx hv
    rw [← hct, List.getElem?_take_of_lt (by omega), Array.getElem?_toList] at h1
    rw [Go.Joins.cell_of_block hrow, Nat.zero_add]
    exact h1⟩
  have HI := hid (indexM_any (fun x : Mv => x.name.toList == nm.toList) 60 #[.pointer (some ⟨Bn, 0, none⟩)] eg (some ⟨g, 0, none⟩) cap vs w (named_pred nm Bn w hBn hnm) hM (by omega))
  rcases find_spec vs nm.toList with ⟨hfd, hall⟩ | ⟨k, v, hk, hfd, hv, hbef⟩
  · rw [show Lib.idxBy (fun _ y : Mv => y.name.toList == nm.toList) vs default = -1 from hfd] at HI
    have HE : Hid (stay nm.toList vs = vs) := by
      show _ = _
      unfold stay
      rw [List.filter_eq_self]
      intro u hu
      rw [hall u hu]
      rfl
    rw [HE.out]
    have HM := hid hM
    have HB := hid hb
    clear hM hb hall hfd hrow hct
    go_enter Tryz.func42, Tryz.ntmps42
    go_wp2_with fail
    refine HI.out.mono ?_
    rintro e w1 ⟨rfl, hb1⟩
    have HM1 := hid (HM.out.below hb1)
    have HB1 := hid (HB.out.trans (hb1.mono HB.out.size))
    clear hb1
    go_wp2_with fail
    go_ret
    exact ⟨rfl, HM1.out, HB1.out⟩
  · rw [show Lib.idxBy (fun _ y : Mv => y.name.toList == nm.toList) vs default = (k : Int) from hfd] at HI
    have hkl : k < vs.length := (List.getElem?_eq_some_iff.1 hk).1
    have HS := hid (fun W hW => del_start hb hnm hBn hrow hcs hnc hct hk hv hbef (W := W) hW)
    have hkp := nxt_k (Nat.le_of_lt (Nat.lt_of_lt_of_le hkl (Nat.le_trans hl (by decide))))
    have hkw := nxt_w (Nat.le_of_lt (Nat.lt_of_lt_of_le hkl (Nat.le_trans hl (by decide))))
    have hk1 := not_m1 k
    clear hM hb hbef hfd hrow hct hnm hBn hv hk
    go_enter Tryz.func42, Tryz.ntmps42
    go_wp2_with fail
    refine HI.out.mono ?_
    rintro e w1 ⟨rfl, hb1⟩
    have HS1 := hid (HS.out w1 hb1)
    clear hb1 HS HI
    have hn0 : (0 : Int) ≤ (vs.length : Int) := Int.natCast_nonneg _
    go_wp2_with fail
    go_loopw [5, 6] (fun si sj wr => ∃ i j : Nat, si = .int .i64 (i : Int) ∧ sj = .int .i64 (j : Int) ∧ Hid (DelSt w0 g cap vs nm Bn i j wr)) (fun _ sj _ => vs.length - (intOf sj).toNat)
    case atStart => exact ⟨k, k + 1, rfl, by go_num, HS1⟩
    case round =>
      obtain ⟨i, j, rfl, rfl, HS⟩ := hrel
      have hij := HS.out.lt
      have hjl := HS.out.le
      by_cases hlt : j < vs.length
      · obtain ⟨x, hx⟩ : ∃ x, vs[j]? = some x := ⟨_, List.getElem?_eq_getElem hlt⟩
        have hd := del_cells HS.out hx
        obtain ⟨p0, p1, p2, p3, p4⟩ := hd
        have HP := hid (del_pred HS.out x)
        have hji : (j : Int) < (vs.length : Int) := Int.ofNat_lt.2 hlt
        have hj0 : (0 : Int) ≤ (j : Int) := Int.natCast_nonneg _
        have hjp := nxt_k (Nat.le_trans hjl (Nat.le_trans hl (by decide)))
        have hjw := nxt_w (Nat.le_trans hjl (Nat.le_trans hl (by decide)))
        have hip := nxt_k (Nat.le_trans (Nat.le_of_lt (Nat.lt_of_lt_of_le hij hjl)) (Nat.le_trans hl (by decide)))
        have hiw := nxt_w (Nat.le_trans (Nat.le_of_lt (Nat.lt_of_lt_of_le hij hjl)) (Nat.le_trans hl (by decide)))
        have hii : (i : Int) < (vs.length : Int) := Int.ofNat_lt.2 (Nat.lt_of_lt_of_le hij hjl)
        have hi0 : (0 : Int) ≤ (i : Int) := Int.natCast_nonneg _
        rcases hq : (x.name.toList == nm.toList) with _ | _
        · rw [hq] at HP
          have HQ := hid hq
          clear hq
          go_wp2_with fail
          refine (HP.out _).mono ?_
          rintro e w2 ⟨rfl, hb2⟩
          have HB2 := hid hb2
          clear hb2 p0 p1 p2 p3 p4
          obtain ⟨q0, q1, q2, q3, q4⟩ := del_box HS.out x HB2.out
          obtain ⟨⟨o0, c0, z0⟩, ⟨o1, c1, z1⟩, ⟨o2, c2, z2⟩, ⟨o3, c3, z3⟩, ⟨o4, c4, z4⟩⟩ := del_olds HS.out HB2.out
          go_wp2_with fail
          exact ⟨⟨i + 1, j + 1, by go_num, by go_num, hid (HS.out.keep hg hne hx HQ.out (alloc_below HB2.out))⟩, less_j hlt (by go_num)⟩
        · rw [hq] at HP
          have HQ := hid hq
          clear hq
          go_wp2_with fail
          refine (HP.out _).mono ?_
          rintro e w2 ⟨rfl, hb2⟩
          have HS2 := hid (HS.out.skip hx HQ.out (alloc_below hb2))
          clear hb2 p0 p1 p2 p3 p4
          go_wp2_with fail
          exact ⟨⟨i, j + 1, rfl, by go_num, HS2⟩, less_j hlt (by go_num)⟩
      · have hjn : j = vs.length := Nat.le_antisymm hjl (Nat.le_of_not_lt hlt)
        subst hjn
        have hji : ¬ ((vs.length : Int) < (vs.length : Int)) := Int.lt_irrefl _
        have hcl := del_clear HS.out
        have hi0 : (0 : Int) ≤ (i : Int) := Int.natCast_nonneg _
        have hii : (i : Int) ≤ (vs.length : Int) := Int.ofNat_le.2 (Nat.le_of_lt hij)
        go_wp2_with fail
        go_ret
        obtain ⟨e1, e2, e3⟩ := del_end HS.out hg (Builtin.zeroCells #[.string ByteArray.empty, .bool false, .slice none 0 0, .bool false, .slice none 0 0] (vs.length - i)).toList
        exact ⟨by rw [← e1]; rfl, e2, e3⟩

set_option maxRecDepth 100000 in
theorem delete_none (c : Nat) (fv : Value) (w : World) : Calls Tryz.prog 42 #[.slice none 0 c, fv] w fun e w' => e = .returned (.slice none 0 c) ∧ w' = w := by
  have HI := hid (indexM_none none c fv w)
  go_enter Tryz.func42, Tryz.ntmps42
  go_wp2_with fail
  refine HI.out.mono ?_
  rintro e w1 ⟨rfl, hw1⟩
  subst w1
  go_wp2_with fail
  go_ret
  exact ⟨rfl, rfl⟩
set_option maxRecDepth 100000 in
set_option maxHeartbeats 1000000 in
/-- Undef: all but those of that name. -/
theorem Undef_any (a : Option Addr) (c : Nat) (vs : List Mv) (nm : ByteArray) (w : World) (hM : MsAt w a vs) (hl : vs.length ≤ 1048575) :
    Calls Tryz.prog 18 #[.slice a vs.length c, .string nm] w (DelPost w (stay nm.toList vs)) := by
  have HC := hid (Clone_any a c vs w hM (by omega))
  clear hM
  go_enter Tryz.func18, Tryz.ntmps18
  go_wp2_with fail
  refine HC.out.mono ?_
  rintro e w1 ⟨v', rfl, hown, hb1⟩
  have HN := hid (named_any nm w1)
  have hbn : Below w1.heap.size w1 (w1.alloc (.cells #[.string nm] 9)) := (Below.refl _ w1).alloc (Nat.le_refl _) _
  have HB2 := hid (hb1.trans (hbn.mono hb1.size))
  rcases hown.2 with ⟨rfl, h0⟩ | ⟨g, cap, cur, rfl, hgb, hg, hnc, _, hcs, hct⟩
  · have hv0 : vs = [] := List.eq_nil_of_length_eq_zero h0
    subst hv0
    have HD := hid (fun fv W => delete_none 0 fv W)
    clear hown hb1 hbn HC
    go_wp2_with fail
    refine HN.out.mono ?_
    rintro e w2 ⟨rfl, hw2⟩
    subst w2
    go_wp2_with fail
    refine (HD.out _ _).mono ?_
    rintro e w3 ⟨rfl, hw3⟩
    subst w3
    go_wp2_with fail
    go_ret
    exact ⟨none, 0, rfl, .inl ⟨rfl, rfl⟩, HB2.out⟩
  · have hgl := lt_of_block hg
    have HD := hid (DeleteM_any w nm w1.heap.size g cap cur vs (w1.alloc (.cells #[.string nm] 9)) HB2.out hgb ((hbn.block g hgl).trans hg) hcs hnc hct (by simp) (by simp) (by omega) hl)
    clear hown hb1 hbn HC hg hct hcs
    go_wp2_with fail
    refine HN.out.mono ?_
    rintro e w2 ⟨rfl, hw2⟩
    subst w2
    go_wp2_with fail
    refine HD.out.mono ?_
    rintro e w3 ⟨rfl, hM3, hb3⟩
    have HM3 := hid hM3
    have HB3 := hid hb3
    clear hM3 hb3
    go_wp2_with fail
    go_ret
    exact ⟨_, _, rfl, HM3.out, HB3.out⟩
end
section
open Go.RowKit Go.Shelf

def isNamed (n : List UInt8) (o : Mc) : Bool := o.name.toList == n
/-- What Define makes of definitions, and what it says. -/
def defM (ms : List Mc) (m : Mc) : List Mc × Int := match ms.findIdx? (isNamed m.name.toList) with
  | some k => (match ms[k]? with
    | some o => if sameM o m then (ms, 0) else ([], 7)
    | none => ([], 0))
  | none => if 30 ≤ ms.length then ([], 5) else (ms ++ [m], 0)
def stayM (n : List UInt8) (ms : List Mc) : List Mc := ms.filter fun o => !(isNamed n o)
theorem find_no {ms : List Mc} {n : List UInt8} : ms.findIdx? (isNamed n) = none ↔ ∀ o ∈ ms, isNamed n o = false := by
  rw [List.findIdx?_eq_none_iff]
theorem find_at {ms : List Mc} {n : List UInt8} {k : Nat} (h : ms.findIdx? (isNamed n) = some k) : ∃ o, ms[k]? = some o ∧ isNamed n o = true ∧ ∀ j u, j < k → ms[j]? = some u → isNamed n u = false := by
  obtain ⟨hk, hp, ha⟩ := List.findIdx?_eq_some_iff_getElem.1 h
  refine ⟨ms[k], List.getElem?_eq_getElem hk, hp, fun j u hj hu => ?_⟩
  have := ha j hj
  obtain ⟨hl, rfl⟩ := List.getElem?_eq_some_iff.1 hu
  simpa using this
theorem find_is {ms : List Mc} {n : List UInt8} {k : Nat} {o : Mc} (h1 : ms[k]? = some o) (h2 : isNamed n o = true) (h3 : ∀ j u, j < k → ms[j]? = some u → isNamed n u = false) : ms.findIdx? (isNamed n) = some k := by
  obtain ⟨hk, rfl⟩ := List.getElem?_eq_some_iff.1 h1
  refine List.findIdx?_eq_some_iff_getElem.2 ⟨hk, h2, fun j hj => ?_⟩
  have := h3 j _ hj (List.getElem?_eq_getElem (by omega))
  simp [this]
theorem defM_old {ms : List Mc} {m : Mc} {k : Nat} {o : Mc} (h : ms.findIdx? (isNamed m.name.toList) = some k) (ho : ms[k]? = some o) : defM ms m = if sameM o m then (ms, 0) else ([], 7) := by
  unfold defM
  rw [h]
  dsimp only
  rw [ho]
theorem defM_new {ms : List Mc} {m : Mc} (h : ms.findIdx? (isNamed m.name.toList) = none) : defM ms m = if 30 ≤ ms.length then ([], 5) else (ms ++ [m], 0) := by
  unfold defM
  rw [h]
theorem MsIs.snoc {w : World} {vs : List Mv} {ms : List Mc} {x : Mv} {m : Mc} (h : MsIs w vs ms) (hx : MIs w x m) : MsIs w (vs ++ [x]) (ms ++ [m]) := by
  refine ⟨by simp [h.1], fun j v o hv ho => ?_⟩
  by_cases hj : j < vs.length
  · rw [List.getElem?_append_left hj] at hv
    rw [List.getElem?_append_left (by rw [← h.1]; exact hj)] at ho
    exact h.2 j v o hv ho
  · rw [List.getElem?_append_right (by omega)] at hv
    rw [List.getElem?_append_right (by rw [← h.1]; omega)] at ho
    have hl := h.1
    have hz : j - vs.length = 0 := by
      have := (List.getElem?_eq_some_iff.1 hv).1
      simp at this
      omega
    rw [hz] at hv
    rw [show j - ms.length = 0 by omega] at ho
    simp at hv ho
    subst hv ho
    exact hx
theorem MsIs.nil {w : World} : MsIs w [] [] := ⟨rfl, fun j v m hv => by simp at hv⟩
theorem findV_M {w : World} {vs : List Mv} {ms : List Mc} (h : MsIs w vs ms) (n : List UInt8) : (findV vs n = -1 ∧ ms.findIdx? (isNamed n) = none) ∨ ∃ k : Nat, findV vs n = (k : Int) ∧ ms.findIdx? (isNamed n) = some k := by
  have hn : ∀ (j : Nat) v o, vs[j]? = some v → ms[j]? = some o → isNamed n o = (v.name.toList == n) := fun j v o hv ho => by
    unfold isNamed
    rw [(h.2 j v o hv ho).name]
  have hget : ∀ (j : Nat) o, ms[j]? = some o → ∃ v, vs[j]? = some v := fun j o ho => ⟨_, List.getElem?_eq_getElem (by rw [h.1]; exact (List.getElem?_eq_some_iff.1 ho).1)⟩
  rcases find_spec vs n with ⟨h1, h2⟩ | ⟨k, v, hk, h1, h2, h3⟩
  · refine .inl ⟨h1, find_no.2 fun o ho => ?_⟩
    obtain ⟨j, hj, rfl⟩ := List.getElem_of_mem ho
    have hj' := List.getElem?_eq_getElem hj
    obtain ⟨v, hv⟩ := hget j _ hj'
    rw [hn j v _ hv hj']
    exact h2 v (List.mem_of_getElem? hv)
  · have hkm : ms[k]? = some (ms[k]'(by rw [← h.1]; exact (List.getElem?_eq_some_iff.1 hk).1)) := List.getElem?_eq_getElem _
    refine .inr ⟨k, h1, find_is hkm (by rw [hn k v _ hk hkm]; exact h2) fun j u hj hu => ?_⟩
    obtain ⟨v', hv'⟩ := hget j u hu
    rw [hn j v' u hv' hu]
    exact h3 j v' hj hv'
/-- Define, on values and on what they are. -/
theorem def_is {w : World} {vs : List Mv} {ms : List Mc} {x : Mv} {m : Mc} (h : MsIs w vs ms) (hx : MIs w x m) : (defV vs ms x m).2 = (defM ms m).2 ∧ MsIs w (defV vs ms x m).1 (defM ms m).1 := by
  have hl := h.1
  rcases findV_M h x.name.toList with ⟨h1, h2⟩ | ⟨k, h1, h2⟩
  · rw [hx.name] at h2
    rw [defV_new vs ms x m h1, defM_new h2, hl]
    split
    · exact ⟨rfl, MsIs.nil⟩
    · exact ⟨rfl, h.snoc hx⟩
  · rw [hx.name] at h2
    obtain ⟨o, ho, _⟩ := find_at h2
    rw [defV_old vs ms x m k o h1 ho, defM_old h2 ho]
    split
    · exact ⟨rfl, h⟩
    · exact ⟨rfl, MsIs.nil⟩
theorem sameTs_eq : ∀ (a b : List Tk), sameTs a b = true ↔ a.map (fun t => (t.kind, t.text.toList, t.space)) = b.map (fun t => (t.kind, t.text.toList, t.space))
  | [], [] => by simp [sameTs]
  | [], _ :: _ => by simp [sameTs]
  | _ :: _, [] => by simp [sameTs]
  | x :: r, y :: s => by
    have ih := sameTs_eq r s
    simp only [sameTs, sameT, Bool.and_eq_true, beq_iff_eq, List.map_cons, List.cons.injEq, Prod.mk.injEq, ih]
    constructor
    · rintro ⟨⟨⟨a, b⟩, c⟩, d⟩; exact ⟨⟨a, b, c⟩, d⟩
    · rintro ⟨⟨a, b, c⟩, d⟩; exact ⟨⟨⟨a, b⟩, c⟩, d⟩
/-- What counts of a definition. -/
def keyM (m : Mc) : List UInt8 × Bool × Bool × List ByteArray × List (Int × List UInt8 × Bool) := (m.name.toList, m.call, m.more, m.params, m.body.map (fun t => (t.kind, t.text.toList, t.space)))
theorem sameM_eq (a b : Mc) : sameM a b = true ↔ keyM a = keyM b := by
  unfold sameM keyM
  simp only [Bool.and_eq_true, beq_iff_eq, decide_eq_true_eq, sameTs_eq, Prod.mk.injEq]
  constructor
  · rintro ⟨⟨⟨⟨a, b⟩, c⟩, d⟩, e⟩; exact ⟨a, b, c, d, e⟩
  · rintro ⟨a, b, c, d, e⟩; exact ⟨⟨⟨⟨a, b⟩, c⟩, d⟩, e⟩
theorem sameM_self (a : Mc) : sameM a a = true := (sameM_eq a a).2 rfl
/-- Where Define is right: the first of that name is the same. -/
theorem def_found {ms : List Mc} {m : Mc} (h : (defM ms m).2 = 0) : ∃ k o, (defM ms m).1.findIdx? (isNamed m.name.toList) = some k ∧ (defM ms m).1[k]? = some o ∧ sameM o m = true := by
  rcases hf : ms.findIdx? (isNamed m.name.toList) with _ | k
  · rw [defM_new hf] at h ⊢
    by_cases hl : 30 ≤ ms.length
    · rw [if_pos hl] at h; cases h
    · rw [if_neg hl]
      refine ⟨ms.length, m, find_is (o := m) (by simp) (by simp [isNamed]) (fun j u hj hu => ?_), by simp, sameM_self m⟩
      rw [List.getElem?_append_left hj] at hu
      exact find_no.1 hf u (List.mem_of_getElem? hu)
  · obtain ⟨o, ho, _⟩ := find_at hf
    rw [defM_old hf ho] at h ⊢
    by_cases hs : sameM o m = true
    · rw [if_pos hs]
      exact ⟨k, o, hf, ho, hs⟩
    · rw [if_neg hs] at h; cases h
theorem def_none {ms : List Mc} {m : Mc} (h : (defM ms m).2 ≠ 0) : (defM ms m).1 = [] := by
  rcases hf : ms.findIdx? (isNamed m.name.toList) with _ | k
  · rw [defM_new hf] at h ⊢
    split
    · rfl
    · rename_i hl
      rw [if_neg hl] at h
      exact absurd rfl h
  · obtain ⟨o, ho, _⟩ := find_at hf
    rw [defM_old hf ho] at h ⊢
    split
    · rename_i hs
      rw [if_pos hs] at h
      exact absurd rfl h
    · rfl
theorem def_twice {ms : List Mc} {m : Mc} (h : (defM ms m).2 = 0) : defM (defM ms m).1 m = ((defM ms m).1, 0) := by
  obtain ⟨k, o, h1, h2, h3⟩ := def_found h
  rw [defM_old h1 h2, if_pos h3]
theorem def_other {ms : List Mc} {m y : Mc} (h : (defM ms m).2 = 0) (hn : y.name.toList = m.name.toList) (hs : sameM m y = false) : (defM (defM ms m).1 y).2 = 7 := by
  obtain ⟨k, o, h1, h2, h3⟩ := def_found h
  rw [← hn] at h1
  rw [defM_old h1 h2, if_neg]
  intro h4
  have := (sameM_eq m y).2 (((sameM_eq o m).1 h3).symm.trans ((sameM_eq o y).1 h4))
  rw [hs] at this
  cases this
theorem stay_is {w : World} {vs : List Mv} {ms : List Mc} (h : MsIs w vs ms) (n : List UInt8) : MsIs w (stay n vs) (stayM n ms) := by
  obtain ⟨hl, ha⟩ := h
  induction vs generalizing ms with
  | nil =>
    cases ms with
    | nil => exact MsIs.nil
    | cons o r => simp at hl
  | cons v vr ih =>
    cases ms with
    | nil => simp at hl
    | cons o r =>
      have h0 := ha 0 v o rfl rfl
      have ih' := ih (ms := r) (by simpa using hl) (fun j a b hv ho => ha (j + 1) a b (by simpa using hv) (by simpa using ho))
      have e : isNamed n o = (v.name.toList == n) := by unfold isNamed; rw [h0.name]
      unfold stay stayM at ih' ⊢
      rw [List.filter_cons, List.filter_cons, e]
      split
      · refine ⟨by simp [ih'.1], fun j a b hv ho => ?_⟩
        cases j with
        | zero => simp at hv ho; subst hv ho; exact h0
        | succ j => exact ih'.2 j a b (by simpa using hv) (by simpa using ho)
      · exact ih'
theorem stay_find (n : List UInt8) (ms : List Mc) : (stayM n ms).findIdx? (isNamed n) = none := by
  refine find_no.2 fun o ho => ?_
  have := (List.mem_filter.1 ho).2
  simpa using this
theorem stay_less {n : List UInt8} {ms : List Mc} {k : Nat} (h : ms.findIdx? (isNamed n) = some k) : (stayM n ms).length < ms.length := by
  obtain ⟨o, ho, hn, _⟩ := find_at h
  have hm := List.mem_of_getElem? ho
  have := List.length_filter_lt_length_iff_exists (l := ms) (p := fun o => !(isNamed n o))
  exact this.2 ⟨o, hm, by simp [hn]⟩
theorem def_len {ms : List Mc} {m : Mc} (h : ms.length ≤ 30) : (defM ms m).1.length ≤ 30 := by
  rcases hf : ms.findIdx? (isNamed m.name.toList) with _ | k
  · rw [defM_new hf]
    split
    · simp
    · simp; omega
  · obtain ⟨o, ho, _⟩ := find_at hf
    rw [defM_old hf ho]
    split
    · exact h
    · simp
theorem def_mem {ms : List Mc} {m o : Mc} (h : o ∈ (defM ms m).1) : o ∈ ms ∨ o = m := by
  rcases hf : ms.findIdx? (isNamed m.name.toList) with _ | k
  · rw [defM_new hf] at h
    split at h
    · cases h
    · rcases List.mem_append.1 h with h | h
      · exact .inl h
      · exact .inr (List.mem_singleton.1 h)
  · obtain ⟨u, hu, _⟩ := find_at hf
    rw [defM_old hf hu] at h
    split at h
    · exact .inl h
    · cases h
theorem def_again {ms : List Mc} {m y : Mc} (h : (defM ms m).2 = 0) (hl : ms.length ≤ 30) (hn : y.name.toList = m.name.toList) : (defM (stayM m.name.toList (defM ms m).1) y).2 = 0 := by
  obtain ⟨k, o, h1, h2, h3⟩ := def_found h
  have hlt := stay_less h1
  have hle := def_len (m := m) hl
  have hf := stay_find m.name.toList (defM ms m).1
  rw [← hn] at hf hlt
  rw [← hn, defM_new hf, if_neg (by omega)]
end
end Go.Proofs.YtedmcefckcmheaaGreatDoor
