/- Walks of same, of At and of Here: the numbers of tokens that are asked for. -/
import Derived.Test.YtdkkdkdddfihpaaOrF
namespace Go.Proofs.Ytdkkdkdddfihpaa
open Go.RowKit Go.Shelf

theorem own_same {w w' : World} {base : Nat} {e : TypeId} {size : Nat} {v : Value} {n : Nat} {xs : List Value} (h : w.ownsRow base e size v n xs) (hb : Below w.heap.size w w') : w'.ownsRow base e size v n xs := by
  refine ⟨h.1, ?_⟩
  rcases h.2 with h | ⟨g, cap, cur, hv, hg, hh, r⟩
  · exact .inl h
  · exact .inr ⟨g, cap, cur, hv, hg, (hb.block g (Array.getElem?_eq_some_iff.1 hh).1).trans hh, r⟩

/-- What a slice of numbers holds. -/
def NsAt (w : World) (a : Option Addr) (l : List Nat) : Prop :=
  l = [] ∨ ∃ b, a = some ⟨b, 0, none⟩ ∧ b < w.heap.size ∧ ∀ (j : Nat) (h : j < l.length), w.cell? ⟨b, j, none⟩ = some (.int .i64 (l[j] : Int))
theorem NsAt.below {w w' : World} {a : Option Addr} {l : List Nat} (h : NsAt w a l) (hb : Below w.heap.size w w') : NsAt w' a l := by
  rcases h with rfl | ⟨b, rfl, hlt, hc⟩
  · exact .inl rfl
  · exact .inr ⟨b, rfl, Nat.lt_of_lt_of_le hlt hb.size, fun j hj => (hb.cell (p := ⟨b, j, none⟩) hlt).trans (hc j hj)⟩
theorem NsAt.of_row {w : World} {base : Nat} {v : Value} {l : List Nat} (h : w.ownsRow base 3 1 v l.length (cellsI l)) : ∃ a c, v = .slice a l.length c ∧ NsAt w a l := by
  rcases h.2 with ⟨rfl, h0⟩ | ⟨g, cap, cur, rfl, hb, hg, hn, hc, hs, ht⟩
  · exact ⟨none, 0, by rw [h0], .inl (List.eq_nil_of_length_eq_zero h0)⟩
  · refine ⟨_, _, rfl, .inr ⟨g, rfl, (Array.getElem?_eq_some_iff.1 hg).1, fun j hj => ?_⟩⟩
    have h1 : (cellsI l)[j]? = some (.int .i64 (l[j] : Int)) := by simp [cellsI, hj]
    rw [← ht, List.getElem?_take_of_lt (by omega), Array.getElem?_toList] at h1
    rw [Go.Joins.cell_of_block hg]
    exact h1

set_option maxRecDepth 100000 in
set_option maxHeartbeats 1000000 in
theorem same_eq (a a' : Option Addr) (c c' : Nat) (l : List Nat) (w : World) (h : NsAt w a l) (h' : NsAt w a' l) (hl : l.length ≤ 1048576) :
    Calls Try.prog 9 #[.slice a l.length c, .slice a' l.length c'] w fun e w' => e = .returned (.bool true) ∧ Below w.heap.size w w' := by
  have H1 := hid h
  have H2 := hid h'
  clear h h'
  go_enter Try.func9, Try.ntmps9
  go_wp2_with fail
  go_loopw [13] (fun x wr => ∃ j : Nat, j ≤ l.length ∧ x = .int .i64 j ∧ Hid (Below w.heap.size w wr)) (fun x _ => l.length - (intOf x).toNat)
  case atStart => exact ⟨0, Nat.zero_le _, rfl, Below.refl _ _⟩
  case round =>
    obtain ⟨j, hj, rfl, HB⟩ := hrel
    by_cases hlt : j < l.length
    · rcases H1.out.below HB.out with h0 | ⟨b, rfl, hb, hc⟩
      · rw [h0] at hlt; simp at hlt
      rcases H2.out.below HB.out with h0 | ⟨b', rfl, hb', hc'⟩
      · rw [h0] at hlt; simp at hlt
      have c0 := hc j hlt
      have c1 := hc' j hlt
      clear hc hc'
      generalize l[j] = y at c0 c1
      go_wp2_with fail
      go_quiet (fail)
      go_wp2
      go_roundw
      case rel => exact ⟨j + 1, by omega, by go_num, bel_drewN HB.out _⟩
      case measure => simp [intOf]; omega
    · obtain rfl : j = l.length := by omega
      go_wp2_with fail
      go_ret
      exact ⟨rfl, HB.out⟩

/-- Whether the one at i is asked for. -/
def pickP (p : Ov → Bool) (ts : List Ov) (i : Nat) : Bool := match ts[i]? with
  | some t => p t
  | none => false
/-- The numbers below n of those that are asked for. -/
def numsTo (p : Ov → Bool) (ts : List Ov) : Nat → List Nat
  | 0 => []
  | i + 1 => numsTo p ts i ++ (if pickP p ts i = true then [i] else [])
theorem numsTo_some (p : Ov → Bool) (ts : List Ov) (i : Nat) (t : Ov) (h : ts[i]? = some t) : numsTo p ts (i + 1) = numsTo p ts i ++ (if p t = true then [i] else []) := by
  rw [numsTo, pickP, h]
theorem numsTo_few (p : Ov → Bool) (ts : List Ov) : ∀ i, (numsTo p ts i).length ≤ i
  | 0 => by simp [numsTo]
  | i + 1 => by
    have := numsTo_few p ts i
    rw [numsTo, List.length_append]
    have h2 : (if pickP p ts i = true then [i] else []).length ≤ 1 := by cases pickP p ts i <;> simp
    omega

/-- The closures answer so, in each world that is later than w. -/
def Asks (f : Nat) (caps : Array Value) (p : Ov → Bool) (w : World) : Prop :=
  ∀ (t : Ov) (W : World), Below w.heap.size w W → Calls Try.prog f (#[aggO t] ++ caps) W fun e w' => e = .returned (.bool (p t)) ∧ Below W.heap.size W w'

structure NumSt (w : World) (p : Ov → Bool) (ts : List Ov) (i : Nat) (v : Value) (wr : World) : Prop where
  old : Below w.heap.size w wr
  own : wr.ownsRow w.heap.size 3 1 v (numsTo p ts i).length (cellsI (numsTo p ts i))
theorem NumSt.below {w : World} {p : Ov → Bool} {ts : List Ov} {i : Nat} {v : Value} {wr wr' : World} (h : NumSt w p ts i v wr) (hb : Below wr.heap.size wr wr') : NumSt w p ts i v wr' :=
  ⟨h.old.trans (hb.mono h.old.size), own_same h.own hb⟩
theorem NumSt.skip {w : World} {p : Ov → Bool} {ts : List Ov} {i : Nat} {v : Value} {wr : World} (h : NumSt w p ts i v wr) (t : Ov) (ht : ts[i]? = some t) (hp : p t = false) : NumSt w p ts (i + 1) v wr := by
  have e : numsTo p ts (i + 1) = numsTo p ts i := by rw [numsTo_some p ts i t ht, hp]; simp
  exact ⟨h.old, by rw [e]; exact h.own⟩
theorem NumSt.next {w : World} {p : Ov → Bool} {ts : List Ov} {i : Nat} {v v' : Value} {wr w2 : World} {X : Obj} (h : NumSt w p ts i v wr) (t : Ov) (ht : ts[i]? = some t) (hp : p t = true)
    (hown : w2.ownsRow w.heap.size 3 1 v' ((numsTo p ts i).length + 1) (cellsI (numsTo p ts i) ++ [.int .i64 (i : Int)])) (hg : (wr.alloc X).grownBy w2 v.ownBlock) : NumSt w p ts (i + 1) v' w2 := by
  have e : numsTo p ts (i + 1) = numsTo p ts i ++ [i] := by rw [numsTo_some p ts i t ht, hp]; simp
  refine ⟨(h.old.alloc h.old.size X).grown hg (by have := h.old.size; simp; omega) (fun j e => (h.own.lt j e).1), ?_⟩
  rw [e, List.length_append, cellsI, List.map_append]
  exact hown

theorem OsAt.at {w : World} {a : Option Addr} {ts : List Ov} (h : OsAt w a ts) (j : Nat) (t : Ov) (hj : ts[j]? = some t) : ∃ b off, a = some ⟨b, off, none⟩ ∧ b < w.heap.size ∧ CsAt w t.ca t.calls ∧ ∀ (i : Nat) v, (encO t)[i]? = some v → w.cell? ⟨b, off + j * 11 + i, none⟩ = some v := by
  rcases h with rfl | ⟨b, off, rfl, hlt, hc⟩
  · simp at hj
  · exact ⟨b, off, rfl, hlt, (hc j t hj).1, (hc j t hj).2⟩

def NumsPost (p : Ov → Bool) (ts : List Ov) (w : World) (e : Ending) (w' : World) : Prop := ∃ a c, e = .returned (.slice a (numsTo p ts ts.length).length c) ∧ NsAt w' a (numsTo p ts ts.length) ∧ Below w.heap.size w w'

set_option maxRecDepth 100000 in
set_option maxHeartbeats 4000000 in
theorem numbers_any (a : Option Addr) (cap : Nat) (ts : List Ov) (f : Nat) (caps : Array Value) (p : Ov → Bool) (w : World) (eg : ∀ args w, (callFunc f args).run Try.prog w = .ok (.enter f args) w) (hp : Asks f caps p w) (hT : OsAt w a ts) (hl : ts.length ≤ 1048576) :
    Calls Try.prog 17 #[.slice a ts.length cap, .func (.func f) #[] caps] w (NumsPost p ts w) := by
  obtain ⟨j0, hj, hy0, hy1, hy2⟩ := info_parts info_int
  have HT := hid hT
  have HP := hid hp
  clear hT hp
  go_enter Try.func17, Try.ntmps17
  go_wp2_with fail
  go_loopw [5, 10] (fun v x wr => ∃ i : Nat, i ≤ ts.length ∧ x = .int .i64 i ∧ Hid (NumSt w p ts i v wr)) (fun _ x _ => ts.length - (intOf x).toNat)
  case atStart => exact ⟨0, Nat.zero_le _, rfl, Below.refl _ _, World.ownsRow_nil _ _ _ _⟩
  case round =>
    obtain ⟨i, hi, rfl, HN⟩ := hrel
    by_cases hlt : i < ts.length
    · have hx : ts[i]? = some ts[i] := List.getElem?_eq_getElem hlt
      obtain ⟨b, off, hca, hb, _, hc⟩ := (HT.out.below HN.out.old).at i _ hx
      generalize ts[i] = t at hx hc
      have HX := hid hx
      have HA := hid (fun W hb => HP.out t W hb)
      have c0 := hc 0 _ rfl
      have c1 := hc 1 _ rfl
      have c2 := hc 2 _ rfl
      have c3 := hc 3 _ rfl
      have c4 := hc 4 _ rfl
      have c5 := hc 5 _ rfl
      have c6 := hc 6 _ rfl
      have c7 := hc 7 _ rfl
      have c8 := hc 8 _ rfl
      have c9 := hc 9 _ rfl
      have c10 := hc 10 _ rfl
      simp only [Nat.add_zero] at c0
      subst hca
      have hbb : b ≠ wr.heap.size := by omega
      clear hc hx
      have HO := hid (fun o => HN.out.old.alloc HN.out.old.size o)
      have HN1 := hid (fun o W (hb : Below (wr.alloc o).heap.size (wr.alloc o) W) => HN.out.below (((Below.refl wr.heap.size wr).alloc (Nat.le_refl _) o).trans (hb.mono (by simp))))
      obtain ⟨av, nv, cv, rfl⟩ := row_slice HN.out.own
      unfold aggO at HA
      rcases hpt : p t with _ | _
      · rw [hpt] at HA
        have HS := hid (fun W (h : NumSt w p ts i (.slice av nv cv) W) => h.skip t HX.out hpt)
        clear hpt
        go_wp2_with (refine (HA.out _ (HO.out _)).mono ?_; rintro e w2 ⟨rfl, hb2⟩)
        go_roundw
        case rel => exact ⟨i + 1, hlt, by go_num, HS.out _ (HN1.out _ _ hb2)⟩
        case measure => simp [intOf]; omega
      · rw [hpt] at HA
        have HS := hid (fun v' W w2 X (h : NumSt w p ts i (.slice av nv cv) W) => h.next (v' := v') (w2 := w2) (X := X) t HX.out hpt)
        have hfew := numsTo_few p ts i
        clear hpt
        go_wp2_with (first | (at_builtin; refine wpList_append_own _ rfl _ _ 25 rfl w.heap.size 3 j0 _ 1 8 Try.underlying25 hj hy0 hy1 hy2 rfl (by decide) _ _ _ rfl (hown.alloc _) ⟨w2.heap.size, 0, none⟩ 1 1 [.int .i64 (i : Int)] rfl rfl (one_new w2 _ _) (by simp; rfl) (by unfold maxLen; omega) (by omega) (by simp; omega) ?_) | (refine (HA.out _ (HO.out _)).mono ?_; rintro e w2 ⟨rfl, hb2⟩; have HN2 := hid (HN1.out _ _ hb2); have hown := HN2.out.own; have hold := HN2.out.old.size))
        intro v' w3 hown3 hg3 _
        have HN3 := hid (HS.out v' w2 w3 _ HN2.out hown3 hg3)
        obtain ⟨av3, nv3, cv3, rfl⟩ := row_slice hown3
        clear hown3 hg3 hown hold HN2
        go_wp2
        go_roundw
        case rel => exact ⟨i + 1, hlt, by go_num, HN3.out⟩
        case measure => simp [intOf]; omega
    · obtain rfl : i = ts.length := by omega
      obtain ⟨av, cv, hv, hna⟩ := NsAt.of_row HN.out.own
      subst hv
      go_wp2_with fail
      go_ret
      exact ⟨_, _, rfl, hna, HN.out.old⟩

def herePd (t : Ov) : Bool := decide (t.calls.length = 0)
def atPd (file lo : Int) (t : Ov) : Bool := (t.made == 0) && (t.file == file) && decide (t.lo ≤ lo) && decide (lo < t.hi)

theorem here_asks (w : World) : Asks 19 #[] herePd w := fun t W _ => by
  have HA := hid (fun o => (Below.refl W.heap.size W).alloc (Nat.le_refl _) o)
  show Calls Try.prog 19 #[aggO t] W _
  unfold aggO herePd
  obtain ⟨kind, text, space, first, file, lo, hi, line, ha, hn, hc, ca, cc, calls, made⟩ := t
  dsimp only
  generalize calls.length = N
  go_enter Try.func19, Try.ntmps19
  go_wp2
  go_ret
  exact ⟨ret_bool (bool_ext (by simp)), HA.out _⟩

set_option maxRecDepth 100000 in
set_option maxHeartbeats 1000000 in
theorem at_asks (w : World) (B C : Nat) (fl lo' : Int) (hB : w.cell? ⟨B, 0, none⟩ = some (.int .i64 fl)) (hC : w.cell? ⟨C, 0, none⟩ = some (.int .i64 lo')) : Asks 18 #[.pointer (some ⟨B, 0, none⟩), .pointer (some ⟨C, 0, none⟩)] (atPd fl lo') w := fun t W hW => by
  have HA := hid (fun o => (Below.refl W.heap.size W).alloc (Nat.le_refl _) o)
  have hB1 := (hW.cell (World.block_lt_of_cell? _ _ hB)).trans hB
  have hC1 := (hW.cell (World.block_lt_of_cell? _ _ hC)).trans hC
  have hB2 : B < W.heap.size := World.block_lt_of_cell? _ _ hB1
  have hC2 : C < W.heap.size := World.block_lt_of_cell? _ _ hC1
  have hB3 : B ≠ W.heap.size := by omega
  have hC3 : C ≠ W.heap.size := by omega
  clear hB hC hW
  show Calls Try.prog 18 #[aggO t, .pointer (some ⟨B, 0, none⟩), .pointer (some ⟨C, 0, none⟩)] W _
  unfold aggO atPd
  obtain ⟨kind, text, space, first, file, lo, hi, line, ha, hn, hc, ca, cc, calls, made⟩ := t
  dsimp only
  go_enter Try.func18, Try.ntmps18
  go_wp2
  all_goals go_ret
  all_goals exact ⟨ret_bool (bool_ext (by simp_all <;> omega)), HA.out _⟩

set_option maxHeartbeats 1000000 in
theorem Here_any (a : Option Addr) (cap : Nat) (ts : List Ov) (w : World) (hT : OsAt w a ts) (hl : ts.length ≤ 1048576) :
    Calls Try.prog 11 #[.slice a ts.length cap] w (NumsPost herePd ts w) := by
  have HN := hid (numbers_any a cap ts 19 #[] herePd w (enters_of Try.func19 (by kernel_rfl) rfl) (here_asks w) hT hl)
  clear hT
  go_enter Try.func11, Try.ntmps11
  go_wp2_with (go_at_call 17; refine HN.out.mono ?_; rintro e w2 ⟨a2, c2, rfl, hn2, hb2⟩)
  go_ret
  exact ⟨_, _, rfl, hn2, hb2⟩

set_option maxHeartbeats 1000000 in
theorem At_any (a : Option Addr) (cap : Nat) (ts : List Ov) (fl lo : Int) (w : World) (hT : OsAt w a ts) (hl : ts.length ≤ 1048576) :
    Calls Try.prog 10 #[.slice a ts.length cap, .int .i64 fl, .int .i64 lo] w (NumsPost (atPd fl lo) ts w) := by
  have hb1 : Below w.heap.size w ((w.alloc (.cells #[.int .i64 fl] 3)).alloc (.cells #[.int .i64 lo] 3)) := ((Below.refl w.heap.size w).alloc (Nat.le_refl _) _).alloc (by simp) _
  have hc1 : ((w.alloc (.cells #[.int .i64 fl] 3)).alloc (.cells #[.int .i64 lo] 3)).cell? ⟨w.heap.size, 0, none⟩ = some (.int .i64 fl) := by
    have h1 : (w.alloc (.cells #[.int .i64 fl] 3)).cell? ⟨w.heap.size, 0, none⟩ = some (.int .i64 fl) := by rw [World.cell?_alloc_mark]; rfl
    exact (((Below.refl (w.alloc (.cells #[.int .i64 fl] 3)).heap.size (w.alloc (.cells #[.int .i64 fl] 3))).alloc (Nat.le_refl _) (.cells #[.int .i64 lo] 3)).cell (World.block_lt_of_cell? _ _ h1)).trans h1
  have hc2 : ((w.alloc (.cells #[.int .i64 fl] 3)).alloc (.cells #[.int .i64 lo] 3)).cell? ⟨w.heap.size + 1, 0, none⟩ = some (.int .i64 lo) := by
    have e : w.heap.size + 1 = (w.alloc (.cells #[.int .i64 fl] 3)).heap.size := by simp
    rw [e, World.cell?_alloc_mark]; rfl
  have HN := hid (numbers_any a cap ts 18 #[.pointer (some ⟨w.heap.size, 0, none⟩), .pointer (some ⟨w.heap.size + 1, 0, none⟩)] (atPd fl lo) _ (enters_of Try.func18 (by kernel_rfl) rfl) (at_asks _ _ _ fl lo hc1 hc2) (hT.below hb1) hl)
  have HB := hid hb1
  clear hT hc1 hc2 hb1
  go_enter Try.func10, Try.ntmps10
  go_wp2_with (go_at_call 17; refine HN.out.mono ?_; rintro e w2 ⟨a2, c2, rfl, hn2, hb2⟩)
  go_ret
  exact ⟨_, _, rfl, hn2, HB.out.trans (hb2.mono HB.out.size)⟩
end Go.Proofs.Ytdkkdkdddfihpaa
