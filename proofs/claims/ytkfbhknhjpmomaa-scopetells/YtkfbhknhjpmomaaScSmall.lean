/- Walks of the document's own reader of trees: ok, Word, Stop, Need, Enter, Base, Key, Named. -/
import Derived.Test.YtkfbhknhjpmomaaScPlain
import Derived.Test.YtkfbhknhjpmomaaMcJ
import Derived.BigQuiet
namespace Go.Proofs.Ytkfbhknhjpmomaa
open Go.RowKit Go.Shelf

/-- The cells of the document's own reader. -/
abbrev boxP (la : Option Addr) (n lc : Nat) (e f a d : Int) : Obj := .cells #[.slice la n lc, .int .i64 e, .int .i64 f, .int .i64 a, .int .i64 d] 50
/-- It lies there: its tokens, what is wrong, how deep. -/
structure PxAt (w : World) (r : Nat) (la : Option Addr) (lc : Nat) (L : List Tk) (e f a d : Int) : Prop where
  box : w.heap[r]? = some (boxP la L.length lc e f a d)
  toks : TAt w la L
  far : ∀ b off, la = some ⟨b, off, none⟩ → L ≠ [] → b ≠ r
  few : L.length ≤ 6000
section
variable {w w' : World} {r : Nat} {la : Option Addr} {lc : Nat} {L : List Tk} {e f a d : Int}
theorem PxAt.facts (h : PxAt w r la lc L e f a d) :
    (w.cell? ⟨r, 0, none⟩ = some (.slice la L.length lc) ∧ w.cell? ⟨r, 1, none⟩ = some (.int .i64 e) ∧ w.cell? ⟨r, 2, none⟩ = some (.int .i64 f) ∧ w.cell? ⟨r, 3, none⟩ = some (.int .i64 a) ∧ w.cell? ⟨r, 4, none⟩ = some (.int .i64 d)) ∧ w.frozen? ⟨r, 1, none⟩ = false ∧ w.frozen? ⟨r, 2, none⟩ = false ∧ w.frozen? ⟨r, 3, none⟩ = false ∧ w.frozen? ⟨r, 4, none⟩ = false := by
  have := h.box
  simp [World.cell?, World.frozen?, this]
theorem PxAt.lt (h : PxAt w r la lc L e f a d) : r < w.heap.size := lt_of_block h.box
theorem PxAt.kept (h : PxAt w r la lc L e f a d) (hk : Kept (· = r) w w') {e' f' a' d' : Int} (hb : w'.heap[r]? = some (boxP la L.length lc e' f' a' d')) : PxAt w' r la lc L e' f' a' d' :=
  ⟨hb, h.toks.kept hk h.far, h.far, h.few⟩
theorem PxAt.below (h : PxAt w r la lc L e f a d) (hb : Below w.heap.size w w') : PxAt w' r la lc L e f a d :=
  ⟨(hb.block r h.lt).trans h.box, h.toks.below hb, h.far, h.few⟩
theorem PxAt.draws (h : PxAt w r la lc L e f a d) (n : Nat) : PxAt (w.drewN n) r la lc L e f a d := h.below (dN_below (Below.refl _ _) n)
theorem PxAt.at (h : PxAt w r la lc L e f a d) (j : Nat) (hj : j < L.length) : ∃ b off, la = some ⟨b, off, none⟩ ∧ b < w.heap.size ∧ b ≠ r ∧ ∀ (k : Nat) v, (encT L[j])[k]? = some v → w.cell? ⟨b, off + j * 11 + k, none⟩ = some v := by
  rcases h.toks with h0 | ⟨b, off, rfl, hb, hc⟩
  · rw [h0] at hj; simp at hj
  · exact ⟨b, off, rfl, hb, h.far b off rfl (fun e => by rw [e] at hj; simp at hj), hc j _ (List.getElem?_eq_getElem hj)⟩
/-- It goes deeper, or back. -/
theorem PxAt.sinks (h : PxAt w r la lc L e f a d) (hb : Below w.heap.size w w') (d' : Int) : PxAt (w'.setCell ⟨r, 4, none⟩ (.int .i64 d')) r la lc L e f a d' ∧ Kept (· = r) w (w'.setCell ⟨r, 4, none⟩ (.int .i64 d')) := by
  have hk : Kept (· = r) w (w'.setCell ⟨r, 4, none⟩ (.int .i64 d')) := Kept.setCell (X := (· = r)) (a := ⟨r, 4, none⟩) (kept_of_below hb) rfl _
  refine ⟨h.kept hk ?_, hk⟩
  have := Go.Joins.block_setCell (i := 4) (h.below hb).box (.int .i64 d')
  simpa using this
/-- What is wrong is set down. -/
theorem PxAt.errs (h : PxAt w r la lc L e f a d) (hb : Below w.heap.size w w') (e' f' a' : Int) : PxAt (((w'.setCell ⟨r, 1, none⟩ (.int .i64 e')).setCell ⟨r, 2, none⟩ (.int .i64 f')).setCell ⟨r, 3, none⟩ (.int .i64 a')) r la lc L e' f' a' d ∧ Kept (· = r) w (((w'.setCell ⟨r, 1, none⟩ (.int .i64 e')).setCell ⟨r, 2, none⟩ (.int .i64 f')).setCell ⟨r, 3, none⟩ (.int .i64 a')) := by
  have hk : Kept (· = r) w (((w'.setCell ⟨r, 1, none⟩ (.int .i64 e')).setCell ⟨r, 2, none⟩ (.int .i64 f')).setCell ⟨r, 3, none⟩ (.int .i64 a')) :=
    Kept.setCell (X := (· = r)) (a := ⟨r, 3, none⟩) (Kept.setCell (X := (· = r)) (a := ⟨r, 2, none⟩) (Kept.setCell (X := (· = r)) (a := ⟨r, 1, none⟩) (kept_of_below hb) rfl _) rfl _) rfl _
  refine ⟨h.kept hk ?_, hk⟩
  have h1 := Go.Joins.block_setCell (i := 1) (h.below hb).box (.int .i64 e')
  have h2 := Go.Joins.block_setCell (i := 2) h1 (.int .i64 f')
  have h3 := Go.Joins.block_setCell (i := 3) h2 (.int .i64 a')
  simpa using h3


set_option maxRecDepth 100000 in
set_option maxHeartbeats 1000000 in
theorem pok_any (w : World) (h : PxAt w r la lc L e f a d) :
    Calls Try.prog 16 #[.pointer (some ⟨r, 0, none⟩)] w fun x w' => x = .returned (.bool (e == 0)) ∧ w' = w := by
  obtain ⟨⟨b0, b1, b2, b3, b4⟩, _⟩ := h.facts
  have hR := h.lt
  clear h
  go_enter Try.func16, Try.ntmps16
  go_wp2_with fail
  go_ret
  exact ⟨rfl, rfl⟩

set_option maxRecDepth 100000 in
set_option maxHeartbeats 1000000 in
theorem pword_any (w : World) (h : PxAt w r la lc L e f a d) (i : Nat) :
    Calls Try.prog 31 #[.pointer (some ⟨r, 0, none⟩), .int .i64 (i : Int)] w fun x w' => x = .returned (.string (wrdB L i)) ∧ w' = w := by
  obtain ⟨⟨b0, b1, b2, b3, b4⟩, _⟩ := h.facts
  have hR := h.lt
  by_cases hi : i < L.length
  · obtain ⟨b, off, rfl, hb, hne, hc⟩ := h.at i hi
    have c0 := hc 0 _ rfl
    have c1 := hc 1 _ rfl
    simp only [Nat.add_zero] at c0
    have HW : Hid (wrdB L i = if L[i].kind = 1 ∨ L[i].kind = 5 then L[i].text else ⟨#[]⟩) := by show _ = _; unfold wrdB; rw [List.getElem?_eq_getElem hi]
    rw [HW.out]
    generalize L[i].kind = k at c0
    generalize L[i].text = tx at c1
    clear h hc HW
    have hi2 : (i : Int) < (L.length : Int) := by omega
    have hi3 : decide ((i : Int) < (L.length : Int)) = true := by simp; omega
    have hi0 : (0 : Int) ≤ (i : Int) := by omega
    by_cases k5 : k = 5
    · subst k5
      rw [if_pos (Or.inr rfl)]
      go_enter Try.func31, Try.ntmps31
      go_wp2_with fail
      go_ret
      exact ⟨rfl, rfl⟩
    · have e5 : (k == 5) = false := by simpa using k5
      by_cases k1 : k = 1
      · subst k1
        rw [if_pos (Or.inl rfl)]
        clear k5
        go_enter Try.func31, Try.ntmps31
        go_wp2_with fail
        go_ret
        exact ⟨rfl, rfl⟩
      · have e1 : (k == 1) = false := by simpa using k1
        rw [if_neg (fun h => h.elim k1 k5)]
        clear k1 k5
        go_enter Try.func31, Try.ntmps31
        go_wp2_with fail
        go_ret
        exact ⟨rfl, rfl⟩
  · rw [show wrdB L i = ⟨#[]⟩ by unfold wrdB; rw [List.getElem?_eq_none (by omega)]]
    have hi3 : decide ((i : Int) < (L.length : Int)) = false := by simp; omega
    have hi2 : ¬ (i : Int) < (L.length : Int) := by omega
    clear h
    go_enter Try.func31, Try.ntmps31
    go_wp2_with fail
    go_ret
    exact ⟨rfl, rfl⟩

theorem place_tok (L : List Tk) (i : Nat) : (tokAt L i).file = (placeT L i).1 ∧ (tokAt L i).lo = (placeT L i).2 := by
  unfold placeT
  rcases h : L[i]? with _ | t
  · have hn : L.length ≤ i := by
      apply Classical.byContradiction; intro hn
      rw [List.getElem?_eq_getElem (by omega)] at h; cases h
    rw [tokAt_out hn]
    unfold endTk
    rcases L.getLast? with _ | t <;> exact ⟨rfl, rfl⟩
  · rw [tokAt_in h]; exact ⟨rfl, rfl⟩

/-- Nothing is wrong yet. -/
abbrev PkAt (w : World) (r : Nat) (la : Option Addr) (lc : Nat) (L : List Tk) (d : Nat) : Prop := PxAt w r la lc L 0 (-1) 0 (d : Int)
/-- Something is wrong, and where. -/
def PbAt (w : World) (r : Nat) (la : Option Addr) (lc : Nat) (L : List Tk) (x : Int × Nat) : Prop := x.1 ≠ 0 ∧ ∃ d, PxAt w r la lc L x.1 (placeT L x.2).1 (placeT L x.2).2 d

set_option maxRecDepth 100000 in
set_option maxHeartbeats 1000000 in
theorem pstop_ok (w : World) (h : PxAt w r la lc L 0 f a d) (i : Nat) (x0 : Int) :
    Calls Try.prog 55 #[.pointer (some ⟨r, 0, none⟩), .int .i64 (i : Int), .int .i64 x0] w fun x w' => x = .returned (.tuple #[]) ∧ PxAt w' r la lc L x0 (placeT L i).1 (placeT L i).2 d ∧ Kept (· = r) w w' := by
  obtain ⟨⟨b0, b1, b2, b3, b4⟩, fz1, fz2, fz3, fz4⟩ := h.facts
  have hR := h.lt
  have HAt := hid (rat_any la lc L i x0 w h.toks (Nat.le_trans h.few (by decide)))
  rw [(place_tok L i).1, (place_tok L i).2] at HAt
  have HE := hid (fun (W : World) (hb : Below w.heap.size w W) => h.errs hb x0 (placeT L i).1 (placeT L i).2)
  have HC := hid (fun (W : World) (hb : Below w.heap.size w W) => (h.below hb).facts)
  generalize (placeT L i).1 = pf at HAt HE ⊢
  generalize (placeT L i).2 = pa at HAt HE ⊢
  clear h
  go_enter Try.func55, Try.ntmps55
  go_wp2_with (go_at_call 67; refine HAt.out.mono ?_; rintro e1 w1 ⟨rfl, hb1⟩; obtain ⟨⟨d0, d1, d2, d3, d4⟩, gz1, gz2, gz3, gz4⟩ := HC.out _ hb1; have hR1 := Nat.lt_of_lt_of_le hR hb1.size)
  go_end0
  exact ⟨rfl, HE.out _ hb1⟩

set_option maxRecDepth 100000 in
set_option maxHeartbeats 1000000 in
theorem pstop_bad (w : World) (h : PxAt w r la lc L e f a d) (he : e ≠ 0) (i : Nat) (x0 : Int) :
    Calls Try.prog 55 #[.pointer (some ⟨r, 0, none⟩), .int .i64 (i : Int), .int .i64 x0] w fun x w' => x = .returned (.tuple #[]) ∧ w' = w := by
  obtain ⟨⟨b0, b1, b2, b3, b4⟩, _⟩ := h.facts
  have hR := h.lt
  have he0 : (e == 0) = false := by simpa using he
  clear h he
  go_enter Try.func55, Try.ntmps55
  go_wp2_with fail
  go_end0
  exact ⟨rfl, rfl⟩

theorem wrd_eq {L : List Tk} {i : Nat} {s : ByteArray} : ((wrdB L i).toList == s.toList) = decide (wordT L i = s.data.toList) := by
  rw [← wrdB_is, toList_data, toList_data]
  by_cases h : (wrdB L i).data.toList = s.data.toList
  · rw [decide_eq_true h, h, beq_self_eq_true]
  · rw [decide_eq_false h, beq_eq_false_iff_ne]; exact h
theorem wrd_ne {L : List Tk} {i : Nat} {s : ByteArray} : ((wrdB L i).toList != s.toList) = !decide (wordT L i = s.data.toList) := by
  show (!((wrdB L i).toList == s.toList)) = _
  rw [wrd_eq]

set_option maxRecDepth 100000 in
set_option maxHeartbeats 1000000 in
/-- The word stands there. -/
theorem need_hit (w : World) (h : PxAt w r la lc L e f a d) (i : Nat) (hi : i ≤ 1000000) (s : ByteArray) (hs : wordT L i = s.data.toList) :
    Calls Try.prog 36 #[.pointer (some ⟨r, 0, none⟩), .int .i64 (i : Int), .string s] w fun x w' => x = .returned (.int .i64 ((i + 1 : Nat) : Int)) ∧ w' = w := by
  have HW := hid (pword_any w h i)
  have h1 := @wrd_ne L i s
  rw [decide_eq_true hs] at h1
  have h2 := @wrd_eq L i s
  rw [decide_eq_true hs] at h2
  generalize wrdB L i = wb at HW h1 h2
  have hw1 : IntKind.i64.wrap ((i : Int) + 1) = ((i + 1 : Nat) : Int) := by rw [IntKind.wrap_i64]; omega
  clear h hs
  go_enter Try.func36, Try.ntmps36
  go_wp2_with (go_at_call 31; refine HW.out.mono ?_; rintro e1 w1 ⟨rfl, rfl⟩)
  go_ret
  exact ⟨by go_num, rfl⟩

set_option maxRecDepth 100000 in
set_option maxHeartbeats 1000000 in
/-- Another one does. -/
theorem need_miss (w : World) (h : PxAt w r la lc L 0 f a d) (i : Nat) (hi : i ≤ 1000000) (s : ByteArray) (hs : wordT L i ≠ s.data.toList) :
    Calls Try.prog 36 #[.pointer (some ⟨r, 0, none⟩), .int .i64 (i : Int), .string s] w fun x w' => x = .returned (.int .i64 ((i + 1 : Nat) : Int)) ∧ PxAt w' r la lc L 2 (placeT L i).1 (placeT L i).2 d ∧ Kept (· = r) w w' := by
  have HW := hid (pword_any w h i)
  have HS := hid (pstop_ok w h i 2)
  have h1 := @wrd_ne L i s
  rw [decide_eq_false hs] at h1
  have h2 := @wrd_eq L i s
  rw [decide_eq_false hs] at h2
  generalize wrdB L i = wb at HW h1 h2
  have hw1 : IntKind.i64.wrap ((i : Int) + 1) = ((i + 1 : Nat) : Int) := by rw [IntKind.wrap_i64]; omega
  clear h hs
  go_enter Try.func36, Try.ntmps36
  go_wp2_with (first
    | (go_at_call 31; refine HW.out.mono ?_; rintro e1 w1 ⟨rfl, rfl⟩)
    | (go_at_call 55; refine HS.out.mono ?_; rintro e1 w1 ⟨rfl, hp1, hk1⟩))
  go_ret
  exact ⟨by go_num, hp1, hk1⟩

set_option maxRecDepth 100000 in
set_option maxHeartbeats 1000000 in
/-- Something is wrong already. -/
theorem need_bad (w : World) (h : PxAt w r la lc L e f a d) (he : e ≠ 0) (i : Nat) (hi : i ≤ 1000000) (s : ByteArray) :
    Calls Try.prog 36 #[.pointer (some ⟨r, 0, none⟩), .int .i64 (i : Int), .string s] w fun x w' => x = .returned (.int .i64 ((i + 1 : Nat) : Int)) ∧ w' = w := by
  by_cases hs : wordT L i = s.data.toList
  · exact need_hit w h i hi s hs
  have HW := hid (pword_any w h i)
  have HS := hid (pstop_bad w h he i 2)
  have h1 := @wrd_ne L i s
  rw [decide_eq_false hs] at h1
  have h2 := @wrd_eq L i s
  rw [decide_eq_false hs] at h2
  generalize wrdB L i = wb at HW h1 h2
  have hw1 : IntKind.i64.wrap ((i : Int) + 1) = ((i + 1 : Nat) : Int) := by rw [IntKind.wrap_i64]; omega
  clear h hs
  go_enter Try.func36, Try.ntmps36
  go_wp2_with (first
    | (go_at_call 31; refine HW.out.mono ?_; rintro e1 w1 ⟨rfl, rfl⟩)
    | (go_at_call 55; refine HS.out.mono ?_; rintro e1 w1 ⟨rfl, rfl⟩))
  go_ret
  exact ⟨by go_num, rfl⟩

set_option maxRecDepth 100000 in
set_option maxHeartbeats 1000000 in
theorem enter_ok (w : World) {d : Nat} (h : PkAt w r la lc L d) (hd : d < 30) (i : Nat) :
    Calls Try.prog 59 #[.pointer (some ⟨r, 0, none⟩), .int .i64 (i : Int)] w fun x w' => x = .returned (.bool true) ∧ PkAt w' r la lc L (d + 1) ∧ Kept (· = r) w w' := by
  obtain ⟨⟨b0, b1, b2, b3, b4⟩, q1, q2, q3, q4⟩ := h.facts
  have hR := h.lt
  have HS := hid (h.sinks (Below.refl _ _) ((d + 1 : Nat) : Int))
  have HO := hid (pok_any _ HS.out.1)
  have hw1 : IntKind.i64.wrap ((d : Int) + 1) = ((d + 1 : Nat) : Int) := by rw [IntKind.wrap_i64]; omega
  have hge : decide ((30 : Int) ≤ (d : Int)) = false := by simp; omega
  have hge2 : ¬ (30 : Int) ≤ (d : Int) := by omega
  clear h
  go_enter Try.func59, Try.ntmps59
  go_wp2_with (go_at_call 16; refine HO.out.mono ?_; rintro e1 w1 ⟨rfl, rfl⟩)
  go_ret
  exact ⟨rfl, HS.out⟩

set_option maxRecDepth 100000 in
set_option maxHeartbeats 1000000 in
theorem enter_deep (w : World) (h : PkAt w r la lc L 30) (i : Nat) :
    Calls Try.prog 59 #[.pointer (some ⟨r, 0, none⟩), .int .i64 (i : Int)] w fun x w' => x = .returned (.bool false) ∧ PxAt w' r la lc L 10 (placeT L i).1 (placeT L i).2 31 ∧ Kept (· = r) w w' := by
  obtain ⟨⟨b0, b1, b2, b3, b4⟩, q1, q2, q3, q4⟩ := h.facts
  have hR := h.lt
  have HS := hid (pstop_ok w h i 10)
  clear h
  go_enter Try.func59, Try.ntmps59
  go_wp2_with (first
    | (go_at_call 55; refine HS.out.mono ?_; rintro e1 w1 ⟨rfl, hp1, hk1⟩; obtain ⟨⟨d0, d1, d2, d3, d4⟩, gz1, gz2, gz3, gz4⟩ := hp1.facts; have hR1 := hp1.lt; have HK := hid (hp1.sinks (Below.refl _ _) 31); have HO := hid (pok_any _ HK.out.1))
    | (go_at_call 16; refine HO.out.mono ?_; rintro e1 w2 ⟨rfl, rfl⟩))
  go_ret
  exact ⟨rfl, HK.out.1, hk1.trans HK.out.2⟩

set_option maxRecDepth 100000 in
set_option maxHeartbeats 1000000 in
theorem enter_bad (w : World) (h : PxAt w r la lc L e f a d) (he : e ≠ 0) (i : Nat) :
    Calls Try.prog 59 #[.pointer (some ⟨r, 0, none⟩), .int .i64 (i : Int)] w fun x w' => x = .returned (.bool false) ∧ (∃ d', PxAt w' r la lc L e f a d') ∧ Kept (· = r) w w' := by
  obtain ⟨⟨b0, b1, b2, b3, b4⟩, q1, q2, q3, q4⟩ := h.facts
  have hR := h.lt
  have HT := hid (pstop_bad w h he i 10)
  have HS := hid (h.sinks (Below.refl _ _) (IntKind.i64.wrap (d + 1)))
  have HO := hid (pok_any _ HS.out.1)
  have he0 : (e == 0) = false := by simpa using he
  rw [he0] at HO
  generalize hg : IntKind.i64.wrap (d + 1) = dd at HS HO
  clear h
  rcases hge : decide ((30 : Int) ≤ d) with _ | _
  all_goals go_enter Try.func59, Try.ntmps59
  all_goals go_wp2_with (first
    | (go_at_call 55; refine HT.out.mono ?_; rintro e1 w1 ⟨rfl, rfl⟩)
    | (go_at_call 16; refine HO.out.mono ?_; rintro e1 w2 ⟨rfl, rfl⟩))
  all_goals go_ret
  all_goals exact ⟨rfl, ⟨_, HS.out.1⟩, HS.out.2⟩

theorem st_lit (w : World) (ss : List ByteArray) (T : TypeId) : StAt (w.alloc (.cells (ss.map Value.string).toArray T)) (some ⟨w.heap.size, 0, none⟩) ss :=
  .inr ⟨w.heap.size, 0, rfl, by simp, fun j x hx => by
    have h := heap_alloc_new w (.cells (ss.map Value.string).toArray T)
    unfold World.cell?
    simp only [Nat.zero_add]
    rw [h]
    simp [hx]⟩
theorem cont_any {s : ByteArray} (ss : List ByteArray) : Lib.containsS ss s = ss.any (fun x => s.data.toList == x.data.toList) := by
  rw [Bool.eq_iff_iff, Lib.containsS_iff, List.any_eq_true]
  constructor
  · intro h; exact ⟨s, h, by simp⟩
  · rintro ⟨x, hx, e⟩
    obtain rfl : s = x := bytes_same (by rw [toList_data, toList_data]; simpa using e)
    exact hx
set_option maxRecDepth 100000 in
set_option maxHeartbeats 1000000 in
theorem Base_any (s : ByteArray) (w : World) :
    Calls Try.prog 44 #[.string s] w fun x w' => x = .returned (.bool (baseW s.data.toList)) ∧ Below w.heap.size w w' := by
  have HH := hid (RHas_any _ 4 [⟨#[105, 110, 116]⟩, ⟨#[99, 104, 97, 114]⟩, ⟨#[108, 111, 110, 103]⟩, ⟨#[118, 111, 105, 100]⟩] s _ (st_lit w _ 9) (by decide))
  have HB : Hid (Lib.containsS [⟨#[105, 110, 116]⟩, ⟨#[99, 104, 97, 114]⟩, ⟨#[108, 111, 110, 103]⟩, ⟨#[118, 111, 105, 100]⟩] s = baseW s.data.toList) := by
    show _ = _
    rw [cont_any]
    unfold baseW
    simp only [List.any_cons, List.any_nil, Bool.or_false, Bool.or_assoc]
  rw [HB.out] at HH
  go_enter Try.func44, Try.ntmps44
  go_wp2_with (go_at_call 26; refine HH.out.mono ?_; rintro e1 w1 ⟨rfl, hb1⟩)
  go_ret
  exact ⟨rfl, ((Below.refl _ w).alloc (Nat.le_refl _) _).trans (hb1.mono (by simp))⟩
end
end Go.Proofs.Ytkfbhknhjpmomaa
