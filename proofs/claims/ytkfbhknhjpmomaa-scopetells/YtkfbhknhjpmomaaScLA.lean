/- Walks of the document's own levels of signs. · Walk of the document's own Expr: signs between parts. · Walk of the document's own Unary: signs ahead of a part. · A node in a block of its own, whose row grows. -/
import Derived.Test.YtkfbhknhjpmomaaScName
import Derived.Deep.LoopGhost
namespace Go.Proofs.Ytkfbhknhjpmomaa
section
open Go.RowKit Go.Shelf

/-- Rows of texts, one behind the other. -/
def allocAll (w : World) (ls : List (List ByteArray)) : World := ls.foldl (fun W ss => W.alloc (.cells (ss.map Value.string).toArray 9)) w
theorem allocAll_below : ∀ (ls : List (List ByteArray)) (w : World), Below w.heap.size w (allocAll w ls)
  | [], w => Below.refl _ _
  | s :: r, w => by
    have h1 := (Below.refl w.heap.size w).alloc (Nat.le_refl _) (.cells (s.map Value.string).toArray 9)
    exact h1.trans ((allocAll_below r _).mono h1.size)
theorem allocAll_size : ∀ (ls : List (List ByteArray)) (w : World), (allocAll w ls).heap.size = w.heap.size + ls.length
  | [], w => rfl
  | s :: r, w => by
    have h := allocAll_size r (w.alloc (.cells (s.map Value.string).toArray 9))
    show (allocAll (w.alloc _) r).heap.size = _
    rw [h]
    simp; omega
theorem allocAll_at : ∀ (ls : List (List ByteArray)) (w : World) (j : Nat) (ss : List ByteArray), ls[j]? = some ss → StAt (allocAll w ls) (some ⟨w.heap.size + j, 0, none⟩) ss
  | [], w, j, ss, h => by simp at h
  | s :: r, w, 0, ss, h => by
    simp at h; subst h
    exact (st_lit w s 9).below (allocAll_below r _)
  | s :: r, w, j + 1, ss, h => by
    have := allocAll_at r (w.alloc (.cells (s.map Value.string).toArray 9)) j ss (by simpa using h)
    rw [show (w.alloc (.cells (s.map Value.string).toArray 9)).heap.size + j = w.heap.size + (j + 1) by simp; omega] at this
    exact this
def levsB : List (List ByteArray) := [[⟨#[44]⟩], [⟨#[61]⟩, ⟨#[43, 61]⟩, ⟨#[45, 61]⟩, ⟨#[42, 61]⟩, ⟨#[47, 61]⟩, ⟨#[37, 61]⟩, ⟨#[38, 61]⟩, ⟨#[124, 61]⟩, ⟨#[94, 61]⟩, ⟨#[60, 60, 61]⟩, ⟨#[62, 62, 61]⟩], [⟨#[124, 124]⟩], [⟨#[38, 38]⟩], [⟨#[124]⟩], [⟨#[94]⟩], [⟨#[38]⟩], [⟨#[61, 61]⟩, ⟨#[33, 61]⟩], [⟨#[60]⟩, ⟨#[62]⟩, ⟨#[60, 61]⟩, ⟨#[62, 61]⟩], [⟨#[60, 60]⟩, ⟨#[62, 62]⟩], [⟨#[43]⟩, ⟨#[45]⟩], [⟨#[42]⟩, ⟨#[47]⟩, ⟨#[37]⟩]]
/-- All levels in memory. -/
structure LvAt (w : World) (b : Nat) : Prop where
  lt : b < w.heap.size
  at_ : ∀ (j : Nat) ss, levsB[j]? = some ss → ∃ aj, w.cell? ⟨b, j, none⟩ = some (.slice aj ss.length ss.length) ∧ StAt w aj ss
theorem LvAt.below {w w' : World} {b : Nat} (h : LvAt w b) (hb : Below w.heap.size w w') : LvAt w' b :=
  ⟨Nat.lt_of_lt_of_le h.lt hb.size, fun j ss hj => by obtain ⟨aj, h1, h2⟩ := h.at_ j ss hj; exact ⟨aj, (hb.cell (p := ⟨b, j, none⟩) h.lt).trans h1, h2.below hb⟩⟩
def levRow (n : Nat) : Array Value := ((List.range 12).map fun j => Value.slice (some ⟨n + j, 0, none⟩) ((levsB.getD j []).length) ((levsB.getD j []).length)).toArray
theorem levRow_at (n j : Nat) (ss : List ByteArray) (h : levsB[j]? = some ss) : (levRow n)[j]? = some (.slice (some ⟨n + j, 0, none⟩) ss.length ss.length) := by
  have hj : j < 12 := (List.getElem?_eq_some_iff.1 h).1
  unfold levRow
  simp [hj, List.getD, h]

set_option maxRecDepth 100000 in
set_option maxHeartbeats 1000000 in
theorem Levels_any (w : World) : Calls Try.prog 71 #[] w fun x w' => ∃ b, x = .returned (.slice (some ⟨b, 0, none⟩) 12 12) ∧ LvAt w' b ∧ Below w.heap.size w w' := by
  have HL : Hid (LvAt ((allocAll w levsB).alloc (.cells (levRow w.heap.size) 41)) (w.heap.size + 12)) := by
    have hz := allocAll_size levsB w
    have hz2 : levsB.length = 12 := rfl
    rw [hz2] at hz
    have hn := heap_alloc_new (allocAll w levsB) (.cells (levRow w.heap.size) 41)
    rw [hz] at hn
    refine ⟨by simp; omega, fun j ss hj => ⟨some ⟨w.heap.size + j, 0, none⟩, ?_, ?_⟩⟩
    · have := levRow_at w.heap.size j ss hj
      unfold World.cell?
      simp only
      rw [hn]
      simpa using this
    · exact (allocAll_at levsB w j ss hj).below ((Below.refl _ _).alloc (Nat.le_refl _) _)
  have HB : Hid (Below w.heap.size w ((allocAll w levsB).alloc (.cells (levRow w.heap.size) 41))) := (allocAll_below levsB w).alloc (allocAll_below levsB w).size _
  go_enter Try.func71, Try.ntmps71
  go_wp2
  go_ret
  exact ⟨w.heap.size + 12, rfl, HL.out, HB.out⟩

/-- The first of some levels that has a sign. -/
def levG : List (List ByteArray) → Nat → ByteArray → Nat
  | [], _, _ => 0
  | ss :: r, n, s => if Lib.containsS ss s = true then n else levG r (n + 1) s
theorem levG_is (s : ByteArray) : levG levsB 1 s = levelW s.data.toList := by
  unfold levsB
  simp only [levG, cont_any, List.any_cons, List.any_nil, Bool.or_false, beq_iff_eq, Bool.or_eq_true]
  rfl
theorem levG_at {k n : Nat} {ss : List ByteArray} {s : ByteArray} (h : levsB[k]? = some ss) : levG (levsB.drop k) n s = if Lib.containsS ss s = true then n else levG (levsB.drop (k + 1)) (n + 1) s := by
  obtain ⟨hk, e⟩ := List.getElem?_eq_some_iff.1 h
  rw [List.drop_eq_getElem_cons hk, e]
  rfl
theorem nempty (s : ByteArray) (h : s.data.toList = []) (ss : List ByteArray) (hs : ∀ x ∈ ss, x.data.toList ≠ []) : Lib.containsS ss s = false := by
  rw [cont_any, List.any_eq_false]
  intro x hx e
  have : s.data.toList = x.data.toList := by simpa using e
  exact hs x hx (by rw [← this, h])

set_option maxRecDepth 100000 in
set_option maxHeartbeats 1000000 in
theorem level_any (s : ByteArray) (w : World) : Calls Try.prog 69 #[.string s] w fun x w' => x = .returned (.int .i64 ((levelW s.data.toList : Int) - 1)) ∧ Below w.heap.size w w' := by
  have HG := hid (levG_is s)
  have HE : Hid (s.data.toList = [] → ∀ (j : Nat) ss, levsB[j]? = some ss → Lib.containsS ss s = false) := fun h j ss hj => nempty s h ss (fun x hx => by
    have hm := List.mem_of_getElem? hj
    have key : ∀ ss ∈ levsB, ∀ x ∈ ss, x.data.toList ≠ [] := by decide
    exact key ss hm x hx)
  have hbe : (s.toList == []) = decide (s.data.toList = []) := by
    rw [toList_data]
    by_cases h : s.data.toList = []
    · rw [decide_eq_true h, h]; rfl
    · rw [decide_eq_false h, beq_eq_false_iff_ne]; exact h
  have hbe2 : (s.toList != []) = !decide (s.data.toList = []) := by show (!(s.toList == [])) = _; rw [hbe]
  generalize levelW s.data.toList = lv at HG ⊢
  generalize s.data.toList = sl at HE hbe hbe2
  go_enter Try.func69, Try.ntmps69
  go_wp2_with fail
  refine (Levels_any w).mono ?_
  rintro e w1 ⟨b, rfl, hL, hb1⟩
  have HL := hid hL
  have HB1 := hid hb1
  clear hL hb1
  go_wp2_with fail
  go_loopw [7] (fun x wr => ∃ k : Nat, k ≤ 12 ∧ x = .int .i64 k ∧ Hid (levG (levsB.drop k) (k + 1) s = lv) ∧ Hid (Below w1.heap.size w1 wr)) (fun x _ => 12 - (intOf x).toNat)
  case atStart => exact ⟨0, Nat.zero_le _, rfl, HG.out, Below.refl _ _⟩
  case round =>
    obtain ⟨k, hk, rfl, HV, HR⟩ := hrel
    by_cases hlt : k < 12
    · obtain ⟨ss, hss⟩ : ∃ ss, levsB[k]? = some ss := ⟨_, List.getElem?_eq_getElem (show k < levsB.length from hlt)⟩
      obtain ⟨aj, hc, hst⟩ := (HL.out.below HR.out).at_ k ss hss
      have hbl := (HL.out.below HR.out).lt
      have HN := hid (levG_at (n := k + 1) (s := s) hss)
      have HE2 := hid (fun h => HE.out h k ss hss)
      have hsl : ss.length ≤ 1048576 := by
        have key : ∀ ss ∈ levsB, ss.length ≤ 12 := by decide
        have := key ss (List.mem_of_getElem? hss)
        omega
      have HH := hid (RHas_any aj ss.length ss s wr hst hsl)
      generalize Lib.containsS ss s = cb at HN HH HE2
      generalize ss.length = sn at hc HH
      clear hss hst hsl HE
      by_cases hse : sl = []
      · rw [decide_eq_true hse] at hbe hbe2
        have hcb := HE2.out hse
        subst hcb
        clear HE2 hse
        go_wp2_with fail
        exact ⟨⟨k + 1, by omega, by go_num, by show _ = _; rw [← HV.out, HN.out]; rfl, HR.out⟩, by simp [intOf]; omega⟩
      · rw [decide_eq_false hse] at hbe hbe2
        clear HE2 hse
        go_wp2_with fail
        refine HH.out.mono ?_
        rintro e w2 ⟨rfl, hb2⟩
        have HB2 := hid (HR.out.trans (hb2.mono HR.out.size))
        clear hb2
        cases cb with
        | true =>
          have HX : Hid (lv = k + 1) := by show _ = _; rw [← HV.out, HN.out]; rfl
          have HX2 : Hid ((k : Int) = (lv : Int) - 1) := by show _ = _; rw [HX.out]; omega
          go_wp2_with fail
          go_ret
          exact ⟨congrArg (fun z => Ending.returned (.int .i64 z)) HX2.out, HB1.out.trans (HB2.out.mono HB1.out.size)⟩
        | false =>
          go_wp2_with fail
          exact ⟨⟨k + 1, by omega, by go_num, by show _ = _; rw [← HV.out, HN.out]; rfl, HB2.out⟩, by simp [intOf]; omega⟩
    · obtain rfl : k = 12 := by omega
      have HX : Hid (lv = 0) := by show _ = _; rw [← HV.out]; rfl
      go_wp2_with fail
      go_ret
      exact ⟨by rw [HX.out]; rfl, HB1.out.trans (HR.out.mono HB1.out.size)⟩
end
section
open Go.RowKit Go.Shelf

/-- How far what is wrong may have gone. -/
def kbX (L : List Tk) (m : Nat) : Nat := L.length + 10 + 4 * m
section
variable (r : Nat) (la : Option Addr) (lc : Nat) (L : List Tk)
/-- What reading an expression answers. -/
def EPost (d K : Nat) (R : Got (Nd × Nat)) (w : World) (x : Ending) (w' : World) : Prop := Kept (· = r) w w' ∧ match R with
  | .ok (n, k) => ∃ v : Nv, x = .returned (.tuple #[aggN v, .int .i64 (k : Int)]) ∧ NdIs w' (w.heap.size ≤ ·) v n ∧ PkAt w' r la lc L d ∧ k ≤ L.length
  | .error y => ∃ (v : Nv) (k : Nat), x = .returned (.tuple #[aggN v, .int .i64 (k : Int)]) ∧ k ≤ K ∧ PbAt w' r la lc L y
def XOk (m : Nat) : Prop := ∀ (d l i : Nat) (ev : Option Nat) (w : World), d + m = 30 → PkAt w r la lc L d → i ≤ L.length → 1 ≤ l → l ≤ 13 →
  Calls Try.prog 57 #[.pointer (some ⟨r, 0, none⟩), .map ev, .int .i64 (i : Int), .int .i64 ((l : Int) - 1)] w (EPost r la lc L d (kbX L m) (exR L m 0 l i) w)
def UOk (m : Nat) : Prop := ∀ (d i : Nat) (ev : Option Nat) (w : World), d + m = 30 → PkAt w r la lc L d → i ≤ L.length →
  Calls Try.prog 68 #[.pointer (some ⟨r, 0, none⟩), .map ev, .int .i64 (i : Int)] w (EPost r la lc L d (kbX L m) (exR L m 1 0 i) w)
end
section
variable {r : Nat} {la : Option Addr} {lc : Nat} {L : List Tk} {w w' : World}
theorem PbAt.below {y : Int × Nat} (h : PbAt w r la lc L y) (hb : Below w.heap.size w w') : PbAt w' r la lc L y := by
  obtain ⟨h0, d, h1⟩ := h
  exact ⟨h0, d, h1.below hb⟩
theorem PbAt.far_put {y : Int × Nat} (h : PbAt w r la lc L y) {B : Nat} (hr : r < B) (hb : ∀ g, g ≠ B → w'.heap[g]? = w.heap[g]?) (hz : w'.heap.size = w.heap.size) (hB : ∀ b off, la = some ⟨b, off, none⟩ → L ≠ [] → b ≠ B) : PbAt w' r la lc L y := by
  obtain ⟨h0, d, h1⟩ := h
  exact ⟨h0, d, h1.far_put hr hb hz hB⟩

set_option maxRecDepth 100000 in
set_option maxHeartbeats 1000000 in
/-- Too deep, or wrong already: nothing is read. -/
theorem rexpr_no (w : World) (i : Nat) (ev : Option Nat) (l : Int) (y : Int × Nat) (hrw : r < w.heap.size) (hu : ∀ b off, la = some ⟨b, off, none⟩ → L ≠ [] → b < w.heap.size)
    (hE : ∀ W, Below w.heap.size w W → Calls Try.prog 59 #[.pointer (some ⟨r, 0, none⟩), .int .i64 (i : Int)] W fun x w' => x = .returned (.bool false) ∧ PbAt w' r la lc L y ∧ Kept (· = r) W w') :
    Calls Try.prog 57 #[.pointer (some ⟨r, 0, none⟩), .map ev, .int .i64 (i : Int), .int .i64 l] w fun x w' => x = .returned (.tuple #[aggN zeroN, .int .i64 (i : Int)]) ∧ PbAt w' r la lc L y ∧ Kept (· = r) w w' := by
  have hB0 := (Below.refl w.heap.size w).alloc (Nat.le_refl _) (boxN zeroN)
  have HE := hid (hE _ hB0)
  have HN := hid (heap_alloc_new w (boxN zeroN))
  have HB0 := hid hB0
  clear hB0 hE
  go_enter Try.func57, Try.ntmps57
  go_wp2_with fail
  refine HE.out.mono ?_
  rintro e1 w1 ⟨rfl, hp1, hk1⟩
  have HN1 := hid ((hk1.block _ (lt_of_block HN.out) (by omega)).trans HN.out)
  have HK1 := hid ((kept_below (X := (· = r)) HB0.out).trans hk1)
  have HF : Hid (PbAt (putN w1 w.heap.size zeroN) r la lc L y) := hp1.far_put hrw (fun g hg => putN_other w1 w.heap.size zeroN g hg) (putN_size _ _ _) (fun b off e hL => by have := hu b off e hL; omega)
  obtain ⟨⟨z0, z1, z2⟩, z3, z4, z5⟩ := boxN_facts HN1.out
  have hlt := lt_of_block HN1.out
  clear hk1 hp1
  go_wp2_with fail
  exact bodyPost_ret (nret2 Try.results57 (putN_block zeroN HN1.out) _ rfl rfl) rfl ⟨rfl, HF.out, putN_kept HK1.out (Nat.le_refl _) zeroN⟩
theorem rexpr_bad {y : Int × Nat} (w : World) (h : PbAt w r la lc L y) (i : Nat) (ev : Option Nat) (l : Int) :
    Calls Try.prog 57 #[.pointer (some ⟨r, 0, none⟩), .map ev, .int .i64 (i : Int), .int .i64 l] w fun x w' => x = .returned (.tuple #[aggN zeroN, .int .i64 (i : Int)]) ∧ PbAt w' r la lc L y ∧ Kept (· = r) w w' := by
  obtain ⟨h0, d, h1⟩ := h
  refine rexpr_no w i ev l y h1.lt h1.under fun W hW => (enter_bad W (h1.below hW) h0 i).mono ?_
  rintro x w' ⟨hx, ⟨d', hp⟩, hk⟩
  exact ⟨hx, ⟨h0, d', hp⟩, hk⟩
theorem rexpr_deep (w : World) (h : PkAt w r la lc L 30) (i : Nat) (ev : Option Nat) (l : Int) :
    Calls Try.prog 57 #[.pointer (some ⟨r, 0, none⟩), .map ev, .int .i64 (i : Int), .int .i64 l] w fun x w' => x = .returned (.tuple #[aggN zeroN, .int .i64 (i : Int)]) ∧ PbAt w' r la lc L (10, i) ∧ Kept (· = r) w w' := by
  refine rexpr_no w i ev l (10, i) h.lt h.under fun W hW => (enter_deep W (h.below hW) i).mono ?_
  rintro x w' ⟨hx, hp, hk⟩
  exact ⟨hx, ⟨show (10 : Int) ≠ 0 by decide, 31, hp⟩, hk⟩
theorem xok_zero : XOk r la lc L 0 := by
  intro d l i ev w hd h hi hl1 hl2
  obtain rfl : d = 30 := by omega
  refine (rexpr_deep w h i ev ((l : Int) - 1)).mono ?_
  rintro x w' ⟨rfl, hp, hk⟩
  exact ⟨hk, zeroN, i, rfl, by unfold kbX; omega, hp⟩

/-- What is answered, either way. -/
theorem EPost.any {d K : Nat} {R : Got (Nd × Nat)} {x : Ending} (h : EPost r la lc L d K R w x w') : ∃ (v : Nv) (k : Nat), x = .returned (.tuple #[aggN v, .int .i64 (k : Int)]) ∧ Kept (· = r) w w' ∧
    ((∃ n, R = .ok (n, k) ∧ NdIs w' (w.heap.size ≤ ·) v n ∧ PkAt w' r la lc L d ∧ k ≤ L.length) ∨ (∃ y, R = .error y ∧ k ≤ K ∧ PbAt w' r la lc L y)) := by
  obtain ⟨hk, h⟩ := h
  rcases R with y | ⟨n, k⟩
  · obtain ⟨v, k, hx, h1, h2⟩ := h
    exact ⟨v, k, hx, hk, .inr ⟨y, rfl, h1, h2⟩⟩
  · obtain ⟨v, hx, h1, h2, h3⟩ := h
    exact ⟨v, k, hx, hk, .inl ⟨n, rfl, h1, h2, h3⟩⟩
theorem EPost.bad {d K : Nat} {R : Got (Nd × Nat)} {y : Int × Nat} {v : Nv} {k : Nat} (hR : R = .error y) (hk : Kept (· = r) w w') (hkK : k ≤ K) (hp : PbAt w' r la lc L y) : EPost r la lc L d K R w (.returned (.tuple #[aggN v, .int .i64 (k : Int)])) w' := by
  subst hR
  exact ⟨hk, v, k, rfl, hkK, hp⟩
theorem EPost.good {d K : Nat} {R : Got (Nd × Nat)} {n : Nd} {v : Nv} {k : Nat} (hR : R = .ok (n, k)) (hk : Kept (· = r) w w') (hn : NdIs w' (w.heap.size ≤ ·) v n) (hp : PkAt w' r la lc L d) (hkL : k ≤ L.length) : EPost r la lc L d K R w (.returned (.tuple #[aggN v, .int .i64 (k : Int)])) w' := by
  subst hR
  exact ⟨hk, v, rfl, hn, hp, hkL⟩
/-- Back, and answered: the world behind it. -/
theorem sink_put {e f a d : Int} {wr : World} {H : Nat} (hp : PxAt wr r la lc L e f a d) (hrH : r < H) (hU : ∀ b off, la = some ⟨b, off, none⟩ → L ≠ [] → b < H) (hH : wr.heap[H]? = some (boxN zeroN)) (d' : Int) (x : Nv) :
    PxAt (putN (wr.setCell ⟨r, 4, none⟩ (.int .i64 d')) H x) r la lc L e f a d' ∧ (wr.setCell ⟨r, 4, none⟩ (.int .i64 d')).heap[H]? = some (boxN zeroN) ∧ (∀ b, b ≠ r → b ≠ H → (putN (wr.setCell ⟨r, 4, none⟩ (.int .i64 d')) H x).heap[b]? = wr.heap[b]?) ∧ ∀ {w : World}, Kept (· = r) w wr → w.heap.size ≤ H → Kept (· = r) w (putN (wr.setCell ⟨r, 4, none⟩ (.int .i64 d')) H x) := by
  obtain ⟨h1, h2⟩ := hp.sinks (Below.refl _ _) d'
  have hne : ∀ b, b ≠ r → (wr.setCell ⟨r, 4, none⟩ (.int .i64 d')).heap[b]? = wr.heap[b]? := fun b hb => Below.heap_setCell _ _ _ _ hb
  refine ⟨h1.far_put hrH (fun g hg => putN_other _ _ _ _ hg) (putN_size _ _ _) (fun b off e hL => by have := hU b off e hL; omega), (hne H (by omega)).trans hH, fun b hb hb2 => (putN_other _ _ _ _ hb2).trans (hne b hb), fun hk hz => putN_kept (hk.trans h2) hz x⟩
/-- What is read so far. -/
def exLoopIs (L : List Tk) (X : Nat → Nat → Got (Nd × Nat)) (l g k : Nat) (R : Got (Nd × Nat)) (wr : World) (H A : Nat) (x : Nv) : Prop :=
  ∃ n, exLoop L X l g n k = R ∧ NdIs wr (fun b => H < b ∧ b ≠ A) x n ∧ k ≤ L.length ∧ L.length + 1 ≤ g + k
/-- Ahead of a round: what is read so far, or what is wrong. -/
def ExSt (r : Nat) (la : Option Addr) (lc : Nat) (L : List Tk) (X : Nat → Nat → Got (Nd × Nat)) (l d K : Nat) (R : Got (Nd × Nat)) (w : World) (A g k : Nat) (wr : World) : Prop :=
  Kept (· = r) w wr ∧ wr.heap[w.heap.size]? = some (boxN zeroN) ∧ ∃ x : Nv, wr.heap[A]? = some (boxN x) ∧
    ((exLoopIs L X l g k R wr w.heap.size A x ∧ PkAt wr r la lc L d) ∨ (∃ y, R = .error y ∧ PbAt wr r la lc L y ∧ k ≤ K))
/-- A sign between: its row, its own node. -/
theorem ex_row {W : World} {A H : Nat} {x' x8 : Nv} {m' m2 : Nd} (k : Nat) (hA : A < W.heap.size) (hHA : H < A) (h1 : NdIs W (fun b => H < b ∧ b ≠ A) x' m') (h2 : NdIs W (fun b => H < b ∧ b ≠ A) x8 m2) :
    NdIs (putN (W.alloc (.cells (cellsN [x', x8]).toArray 26)) A ⟨13, k, some ⟨W.heap.size, 0, none⟩, 2, 2⟩) (fun b => H < b ∧ b ≠ A) ⟨13, k, some ⟨W.heap.size, 0, none⟩, 2, 2⟩ (.mk 13 (k : Int) [m', m2]) := by
  have hk : KidsAt (W.alloc (.cells (cellsN [x', x8]).toArray 26)) (fun b => H < b ∧ b ≠ A) (.slice (some ⟨W.heap.size, 0, none⟩) 2 2) [m', m2] :=
    kids_new (P := fun b => H < b ∧ b ≠ A) (NdsIs.two h1 h2) (by simp) (fun b hb _ => hb) ⟨by omega, by omega⟩
  exact ⟨rfl, rfl, hk.kept fun b hb _ => putN_other _ _ _ _ hb.2⟩

theorem putN_past (W : World) (o : Obj) (B : Nat) (x : Nv) (h : B < W.heap.size) : putN (W.alloc o) B x = (putN W B x).alloc o := by
  unfold putN
  rw [World.setCell_alloc_past _ _ _ _ h, World.setCell_alloc_past _ _ _ _ (by simpa using h), World.setCell_alloc_past _ _ _ _ (by simpa using h)]
/-- Behind a sign between and what follows it: the next round's state. -/
theorem ex_next {X : Nat → Nat → Got (Nd × Nat)} {l d K g k k8 A : Nat} {R : Got (Nd × Nat)} {w w5 w8 : World} {x v8 : Nv} {n : Nd} (hrw : r < w.heap.size) (hU : ∀ b off, la = some ⟨b, off, none⟩ → L ≠ [] → b < w.heap.size) (hA : w.heap.size < A) (hA5 : A < w5.heap.size)
    (hx : NdIs w5 (fun b => w.heap.size < b ∧ b ≠ A) x n) (hk5 : Kept (· = r) w w5) (hH : w5.heap[w.heap.size]? = some (boxN zeroN)) (hAx : w5.heap[A]? = some (boxN x)) (hk8 : Kept (· = r) w5 w8)
    (hc : (∃ b, exLoop L X l g (.mk 13 (k : Int) [n, b]) k8 = R ∧ NdIs w8 (w5.heap.size ≤ ·) v8 b ∧ PkAt w8 r la lc L d ∧ k8 ≤ L.length ∧ L.length + 1 ≤ g + k8) ∨ (∃ y, R = .error y ∧ k8 ≤ K ∧ PbAt w8 r la lc L y)) :
    ExSt r la lc L X l d K R w A g k8 (putN ((w8.alloc (boxN v8)).alloc (.cells (cellsN [x, v8]).toArray 26)) A ⟨13, k, some ⟨w8.heap.size + 1, 0, none⟩, 2, 2⟩) := by
  have hz8 := hk8.size
  have hb1 := below_new w8 (boxN v8)
  have hs1 : (w8.alloc (boxN v8)).heap.size = w8.heap.size + 1 := by simp
  have hb2 := below_new (w8.alloc (boxN v8)) (.cells (cellsN [x, v8]).toArray 26)
  have hb : Below w8.heap.size w8 ((w8.alloc (boxN v8)).alloc (.cells (cellsN [x, v8]).toArray 26)) := hb1.trans (hb2.mono hb1.size)
  have hH8 : w8.heap[w.heap.size]? = _ := (hk8.block _ (by omega) (by omega)).trans hH
  have hA8 : w8.heap[A]? = _ := (hk8.block _ (by omega) (by omega)).trans hAx
  refine ⟨putN_kept ((hk5.trans hk8).trans (kept_below hb)) (by omega) _, ?_, _, putN_block _ (u := x) ((hb.block _ (by omega)).trans hA8), ?_⟩
  · rw [putN_other _ _ _ _ (by omega)]; exact (hb.block _ (by omega)).trans hH8
  · rcases hc with ⟨b, h1, h2, h3, h4, h5⟩ | ⟨y, h1, h2, h3⟩
    · refine .inl ⟨⟨_, h1, ?_, h4, h5⟩, (h3.below hb).far_put (B := A) (by omega) (fun g hg => putN_other _ _ _ _ hg) (putN_size _ _ _) (fun b off e hL => by have := hU b off e hL; omega)⟩
      have q1 : NdIs (w8.alloc (boxN v8)) (fun b => w.heap.size < b ∧ b ≠ A) x n := (hx.kept fun b hb hlt => hk8.block b hlt (by omega)).kept fun b _ hlt => hb1.block b hlt
      have q2 : NdIs (w8.alloc (boxN v8)) (fun b => w.heap.size < b ∧ b ≠ A) v8 b := (h2.mono (Q := fun b => w.heap.size < b ∧ b ≠ A) fun b hb _ => ⟨by omega, by omega⟩).kept fun b _ hlt => hb1.block b hlt
      have := ex_row k (show A < (w8.alloc (boxN v8)).heap.size by omega) hA q1 q2
      rw [hs1] at this
      exact this
    · exact .inr ⟨y, h1, (h3.below hb).far_put (B := A) (by omega) (fun g hg => putN_other _ _ _ _ hg) (putN_size _ _ _) (fun b off e hL => by have := hU b off e hL; omega), h2⟩

set_option maxRecDepth 100000 in
set_option maxHeartbeats 4000000 in
theorem xok_step (m : Nat) (hm : m < 30) (hX : XOk r la lc L m) (hU : UOk r la lc L m) : XOk r la lc L (m + 1) := by
  intro d l i ev w hd h hi hl1 hl2
  have hR0 : exR L (m + 1) 0 l i = match exR L m 1 0 i with
    | .error x => .error x
    | .ok (a, k) => exLoop L (fun l i => exR L m 0 l i) l (L.length + 1) a k := rfl
  have hB0 := (Below.refl w.heap.size w).alloc (Nat.le_refl _) (boxN zeroN)
  have HE := hid (enter_ok _ (h.below hB0) (show d < 30 by omega) i)
  have HN := hid (heap_alloc_new w (boxN zeroN))
  have HB0 := hid hB0
  have hrw := h.lt
  have HUn := hid h.under
  have hfew := h.few
  have HUk := hid (fun W (hW : PkAt W r la lc L (d + 1)) => hU (d + 1) i ev W (by omega) hW hi)
  have HXk := hid (fun l' i' W (hW : PkAt W r la lc L (d + 1)) (h1 : i' ≤ L.length) (h2 : 1 ≤ l') (h3 : l' ≤ 13) => hX (d + 1) l' i' ev W (by omega) hW h1 h2 h3)
  have HAdv := hid (exR_adv L m).1
  have hks : kbX L m + 4 = kbX L (m + 1) := by unfold kbX; omega
  have hkl : kbX L m ≤ 100000 := by unfold kbX; omega
  generalize hR : exR L (m + 1) 0 l i = R at hR0
  have HR0 := hid hR0
  obtain ⟨li, hli0⟩ : ∃ li : Int, li = (l : Int) - 1 := ⟨_, rfl⟩
  rw [← hli0]
  have HLi := hid hli0
  clear hR hB0 h hX hU hR0 hli0
  go_enter Try.func57, Try.ntmps57
  go_wp2_with fail
  refine HE.out.mono ?_
  rintro e1 w1 ⟨rfl, hp1, hk1⟩
  have HN1 := hid ((hk1.block _ (lt_of_block HN.out) (by omega)).trans HN.out)
  have HK1 := hid ((kept_below (X := (· = r)) HB0.out).trans hk1)
  have HU1 := hid (HUk.out w1 hp1)
  have hlt1 := lt_of_block HN1.out
  clear hk1 hp1 HUk HE HN HB0
  go_wp2_with fail
  refine HU1.out.mono ?_
  rintro e2 w2 hq
  obtain ⟨x2, k2, rfl, hk2, hc2⟩ := hq.any
  have HN2 := hid ((hk2.block _ hlt1 (by omega)).trans HN1.out)
  have hz2 : w.heap.size < w2.heap.size := lt_of_block HN2.out
  have HSt : Hid (ExSt r la lc L (fun l i => exR L m 0 l i) l (d + 1) (kbX L m) R w w2.heap.size (L.length + 1) k2 (w2.alloc (boxN x2))) := by
    have hb := below_new w2 (boxN x2)
    refine ⟨(HK1.out.trans hk2).trans (kept_below hb), (hb.block _ hz2).trans HN2.out, x2, heap_alloc_new _ _, ?_⟩
    rcases hc2 with ⟨n, hn, h1, h2, h3⟩ | ⟨y, hy, h1, h2⟩
    · refine .inl ⟨⟨n, ?_, ?_, h3, by omega⟩, h2.below hb⟩
      · rw [HR0.out, hn]
      · exact (h1.mono (Q := fun b => w.heap.size < b ∧ b ≠ w2.heap.size) fun b hb hlt => ⟨by omega, by omega⟩).kept fun b _ hlt => hb.block b hlt
    · refine .inr ⟨y, ?_, h2.below hb, h1⟩
      rw [HR0.out, hy]
  clear hk2 hc2 hq HU1 HK1 HN1 HN2 HR0 hlt1
  unfold aggN
  go_wp2_with fail
  generalize w2.alloc (boxN x2) = w4 at HSt ⊢
  generalize w2.heap.size = A at hz2 HSt ⊢
  go_loopg [2] (L.length + 1) (fun g x wr => ∃ k : Nat, x = .int .i64 (k : Int) ∧ Hid (ExSt r la lc L (fun l i => exR L m 0 l i) l (d + 1) (kbX L m) R w A g k wr))
  case atStart => exact ⟨k2, rfl, HSt.out⟩
  case round =>
    obtain ⟨k, rfl, HS⟩ := hrel
    obtain ⟨hK, hH, x, hA, hcase⟩ := HS.out
    clear HS
    have hAlt := lt_of_block hA
    have hrA : A ≠ r := by omega
    have hrA2 : r ≠ A := by omega
    have hHr : w.heap.size ≠ r := by omega
    have hHr2 : r ≠ w.heap.size := by omega
    have hHA : w.heap.size ≠ A := by omega
    have hHA2 : A ≠ w.heap.size := by omega
    have HKp := hid hK
    have HHp := hid hH
    have HAp := hid hA
    clear hK hH hA
    rcases hcase with ⟨⟨n, hR, hx, hkL, hfu⟩, hp⟩ | ⟨y, hy, hp, hkK⟩
    · obtain ⟨g, rfl⟩ : ∃ g, gk = g + 1 := ⟨gk - 1, by omega⟩
      have hR1 : (if levelW (wordT L k) < l then .ok (n, k) else match exR L m 0 (rightW (levelW (wordT L k))) (k + 1) with
        | .error x => .error x
        | .ok (b, k') => exLoop L (fun l i => exR L m 0 l i) l g (.mk 13 (k : Int) [n, b]) k') = R := hR
      have HO := hid (pok_any wr hp)
      have HW := hid (pword_any wr hp k)
      have HLv := hid (level_any (wrdB L k) wr)
      rw [wrdB_is] at HLv
      have hlp := level_pos (L := L) (i := k) (l := l)
      have hlw := rightW_le (wordT L k)
      have HX0 := hid (fun W hW (hk1 : k + 1 ≤ L.length) => HXk.out (rightW (levelW (wordT L k))) (k + 1) W hW hk1 (by unfold rightW; split <;> omega) (by unfold rightW; split <;> omega))
      generalize levelW (wordT L k) = lv at HLv hlp hlw HX0 hR1
      generalize wrdB L k = wb at HW HLv
      have HPx := hid hp
      have HRl := hid hR1
      have HXn := hid hx
      have hrl := hp.lt
      clear hR hR1 hx hp
      by_cases hlv : lv < l
      · have hli : ((lv : Int) - 1) < li := by rw [HLi.out]; omega
        have HR3 : Hid (R = .ok (n, k)) := by show _ = _; rw [← HRl.out, if_pos hlv]
        generalize ((lv : Int) - 1) = lvi at HLv hli
        clear hlp HX0 HRl HXk hlv
        go_wp2_with fail
        refine HO.out.mono ?_
        rintro e3 w3 ⟨rfl, rfl⟩
        go_wp2_with fail
        refine HW.out.mono ?_
        rintro e3 w4 ⟨rfl, rfl⟩
        go_wp2_with fail
        refine HLv.out.mono ?_
        rintro e3 w5 ⟨rfl, hb5⟩
        have HP5 := hid (HPx.out.below hb5)
        have HH5 := hid ((hb5.block _ (lt_of_block HHp.out)).trans HHp.out)
        have HA5 := hid ((hb5.block _ hAlt).trans HAp.out)
        have HK5 := hid (HKp.out.trans (kept_below hb5))
        have HX5 := hid (HXn.out.kept (w' := w5) fun b _ hlt => hb5.block b hlt)
        obtain ⟨⟨b0, b1, b2, b3, b4⟩, g1, g2, g3, g4⟩ := HP5.out.facts
        obtain ⟨⟨a0, a1, a2⟩, _⟩ := boxN_facts HA5.out
        obtain ⟨⟨z0, z1, z2⟩, z3, z4, z5⟩ := boxN_facts HH5.out
        have hrl5 := HP5.out.lt
        have hHl := lt_of_block HH5.out
        have hAl := lt_of_block HA5.out
        have HSp := hid (sink_put HP5.out hrw HUn.out HH5.out (d : Int) x)
        have hwd : wrap64 (((d + 1 : Nat) : Int) - 1) = (d : Int) := by unfold wrap64; omega
        have hwd2 : IntKind.i64.wrap (((d + 1 : Nat) : Int) - 1) = (d : Int) := by rw [IntKind.wrap_i64]; omega
        generalize ((d + 1 : Nat) : Int) = d1 at hwd hwd2 b4
        clear b1 b2 b3 g1 g2 g3 hb5
        go_wp2_with fail
        obtain ⟨s1, s2, s3, s4⟩ := HSp.out
        refine bodyPost_ret (nret2 Try.results57 (putN_block x s2) _ rfl rfl) rfl (EPost.good HR3.out (s4 HK5.out (Nat.le_refl _)) ?_ s1 hkL)
        exact (HX5.out.kept fun b hb hlt => s3 b (by omega) (by omega)).mono fun b hb _ => by omega
      · have hli : ¬ ((lv : Int) - 1) < li := by rw [HLi.out]; omega
        have hk1 : k + 1 ≤ L.length := hlp hlv hl1
        have HR3 := hid HRl.out
        rw [if_neg hlv] at HR3
        obtain ⟨z, hz⟩ : ∃ z : Int, z = (rightW lv : Int) - 1 := ⟨_, rfl⟩
        have HX1 := hid (fun W hW => HX0.out W hW hk1)
        rw [← hz] at HX1
        have HAd := hid (fun b k' (h : exR L m 0 (rightW lv) (k + 1) = .ok (b, k')) => HAdv.out (rightW lv) (k + 1) b k' (by unfold rightW; split <;> omega) h)
        have hwk : IntKind.i64.wrap ((k : Int) + 1) = ((k + 1 : Nat) : Int) := by rw [IntKind.wrap_i64]; omega
        have hk16 : k ≤ 6000 := by omega
        clear hlp HX0 HRl HXk HAdv
        by_cases hlv2 : lv = 2
        · subst hlv2
          obtain rfl : z = 1 := by rw [hz]; rfl
          have hli2 : ¬ (1 : Int) < li := by rw [HLi.out]; omega
          rw [show (((2 : Nat) : Int) - 1) = 1 from rfl] at HLv
          clear hz hlv hli hlw
          go_wp2_with fail
          refine HO.out.mono ?_
          rintro e3 w3 ⟨rfl, rfl⟩
          go_wp2_with fail
          refine HW.out.mono ?_
          rintro e3 w4 ⟨rfl, rfl⟩
          go_wp2_with fail
          refine HLv.out.mono ?_
          rintro e3 w5 ⟨rfl, hb5⟩
          have HP5 := hid (HPx.out.below hb5)
          have HH5 := hid ((hb5.block _ (lt_of_block HHp.out)).trans HHp.out)
          have HA5 := hid ((hb5.block _ hAlt).trans HAp.out)
          have HK5 := hid (HKp.out.trans (kept_below hb5))
          have HX5 := hid (HXn.out.kept (w' := w5) fun b _ hlt => hb5.block b hlt)
          have hA5 := lt_of_block HA5.out
          clear hb5
          go_wp2_with fail
          refine (HX1.out _ HP5.out).mono ?_
          rintro e8 w8 hq8
          obtain ⟨v8, k8, rfl, hk8, hc8⟩ := hq8.any
          have HN8 : Hid (ExSt r la lc L (fun l i => exR L m 0 l i) l (d + 1) (kbX L m) R w A g k8 (putN ((w8.alloc (boxN v8)).alloc (.cells (cellsN [x, v8]).toArray 26)) A ⟨13, k, some ⟨w8.heap.size + 1, 0, none⟩, 2, 2⟩)) := by
            refine ex_next hrw HUn.out hz2 hA5 HX5.out HK5.out HH5.out HA5.out hk8 ?_
            rcases hc8 with ⟨b, h1, h2, h3, h4⟩ | ⟨y, h1, h2, h3⟩
            · refine .inl ⟨b, ?_, h2, h3, h4, ?_⟩
              · have := HR3.out; rw [h1] at this; exact this
              · have := HAd.out b k8 h1; omega
            · exact .inr ⟨y, by have := HR3.out; rw [h1] at this; exact this.symm, h2, h3⟩
          have hA8 : w8.heap[A]? = _ := (hk8.block _ hA5 (by omega)).trans HA5.out
          have HA8 := hid hA8
          obtain ⟨⟨a0, a1, a2⟩, a3, a4, a5⟩ := boxN_facts hA8
          have hA8l := lt_of_block hA8
          rw [putN_past _ _ _ _ (by simp; omega), putN_past _ _ _ _ hA8l] at HN8
          clear hk8 hc8 hq8 hA8 HX5 HK5 HH5 HA5 HP5 HX1 HO HW HLv HPx HKp HHp HAp HXn
          unfold aggN
          go_wp2_with fail
          go_roundg g
          case measure => omega
          case rel => exact ⟨k8, rfl, HN8.out⟩
        · have hz3 : z = (lv : Int) := by rw [hz]; unfold rightW; rw [if_neg hlv2]; omega
          subst hz3
          have hne1 : (((lv : Int) - 1) == 1) = false := by simp; omega
          have hww : IntKind.i64.wrap (((lv : Int) - 1) + 1) = (lv : Int) := by rw [IntKind.wrap_i64]; omega
          have hww2 : wrap64 (((lv : Int) - 1) + 1) = (lv : Int) := by unfold wrap64; omega
          generalize (lv : Int) = zi at HX1 hli hne1 hww hww2 HLv
          generalize zi - 1 = lvi at HLv hli hne1 hww hww2
          clear hz hlv hlv2 hlw
          go_wp2_with fail
          refine HO.out.mono ?_
          rintro e3 w3 ⟨rfl, rfl⟩
          go_wp2_with fail
          refine HW.out.mono ?_
          rintro e3 w4 ⟨rfl, rfl⟩
          go_wp2_with fail
          refine HLv.out.mono ?_
          rintro e3 w5 ⟨rfl, hb5⟩
          have HP5 := hid (HPx.out.below hb5)
          have HH5 := hid ((hb5.block _ (lt_of_block HHp.out)).trans HHp.out)
          have HA5 := hid ((hb5.block _ hAlt).trans HAp.out)
          have HK5 := hid (HKp.out.trans (kept_below hb5))
          have HX5 := hid (HXn.out.kept (w' := w5) fun b _ hlt => hb5.block b hlt)
          have hA5 := lt_of_block HA5.out
          clear hb5
          go_wp2_with fail
          refine (HX1.out _ HP5.out).mono ?_
          rintro e8 w8 hq8
          obtain ⟨v8, k8, rfl, hk8, hc8⟩ := hq8.any
          have HN8 : Hid (ExSt r la lc L (fun l i => exR L m 0 l i) l (d + 1) (kbX L m) R w A g k8 (putN ((w8.alloc (boxN v8)).alloc (.cells (cellsN [x, v8]).toArray 26)) A ⟨13, k, some ⟨w8.heap.size + 1, 0, none⟩, 2, 2⟩)) := by
            refine ex_next hrw HUn.out hz2 hA5 HX5.out HK5.out HH5.out HA5.out hk8 ?_
            rcases hc8 with ⟨b, h1, h2, h3, h4⟩ | ⟨y, h1, h2, h3⟩
            · refine .inl ⟨b, ?_, h2, h3, h4, ?_⟩
              · have := HR3.out; rw [h1] at this; exact this
              · have := HAd.out b k8 h1; omega
            · exact .inr ⟨y, by have := HR3.out; rw [h1] at this; exact this.symm, h2, h3⟩
          have hA8 : w8.heap[A]? = _ := (hk8.block _ hA5 (by omega)).trans HA5.out
          have HA8 := hid hA8
          obtain ⟨⟨a0, a1, a2⟩, a3, a4, a5⟩ := boxN_facts hA8
          have hA8l := lt_of_block hA8
          rw [putN_past _ _ _ _ (by simp; omega), putN_past _ _ _ _ hA8l] at HN8
          clear hk8 hc8 hq8 hA8 HX5 HK5 HH5 HA5 HP5 HX1 HO HW HLv HPx HKp HHp HAp HXn
          unfold aggN
          go_wp2_with fail
          go_roundg g
          case measure => omega
          case rel => exact ⟨k8, rfl, HN8.out⟩
    · obtain ⟨hy0, d0, hp⟩ := hp
      have he0 : (y.1 == 0) = false := by simpa using hy0
      have HO := hid (pok_any wr hp)
      rw [he0] at HO
      obtain ⟨⟨b0, b1, b2, b3, b4⟩, g1, g2, g3, g4⟩ := hp.facts
      obtain ⟨⟨a0, a1, a2⟩, _⟩ := boxN_facts HAp.out
      obtain ⟨⟨z0, z1, z2⟩, z3, z4, z5⟩ := boxN_facts HHp.out
      have hrl := hp.lt
      have hHl := lt_of_block HHp.out
      have HSp := hid (fun d' => sink_put hp hrw HUn.out HHp.out d' x)
      have HY := hid (And.intro hy0 hy)
      generalize hyp : placeT L y.2 = pl at hp
      clear hp b1 b2 b3 g1 g2 g3 hyp hy hy0 he0
      go_wp2_with fail
      refine HO.out.mono ?_
      rintro e3 w3 ⟨rfl, rfl⟩
      go_wp2_with fail
      obtain ⟨s1, s2, s3, s4⟩ := HSp.out (wrap64 (d0 - 1))
      exact bodyPost_ret (nret2 Try.results57 (putN_block x s2) _ rfl rfl) rfl (EPost.bad HY.out.2 (s4 HKp.out (Nat.le_refl _)) (show k ≤ kbX L (m + 1) by omega) ⟨HY.out.1, _, s1⟩)
end
end
section
open Go.RowKit Go.Shelf

def POk (r : Nat) (la : Option Addr) (lc : Nat) (L : List Tk) (m : Nat) : Prop := ∀ (d i : Nat) (ev : Option Nat) (w : World), d + m = 30 → PkAt w r la lc L d → i ≤ L.length →
  Calls Try.prog 70 #[.pointer (some ⟨r, 0, none⟩), .map ev, .int .i64 (i : Int)] w (EPost r la lc L d (kbX L m + 2) (postR L (fun l i => exR L m 0 l i) i) w)
section
variable {r : Nat} {la : Option Addr} {lc : Nat} {L : List Tk} {w w' : World}
set_option maxRecDepth 100000 in
set_option maxHeartbeats 1000000 in
theorem uok_zero : UOk r la lc L 0 := by
  intro d i ev w hd h hi
  obtain rfl : d = 30 := by omega
  have hB0 := (Below.refl w.heap.size w).alloc (Nat.le_refl _) (boxN zeroN)
  have HE := hid (enter_deep _ (h.below hB0) i)
  have HN := hid (heap_alloc_new w (boxN zeroN))
  have HB0 := hid hB0
  have hrw := h.lt
  have HUn := hid h.under
  have HR : Hid (exR L 0 1 0 i = .error (10, i)) := rfl
  rw [HR.out]
  clear hB0 h
  go_enter Try.func68, Try.ntmps68
  go_wp2_with fail
  refine HE.out.mono ?_
  rintro e1 w1 ⟨rfl, hp1, hk1⟩
  have HN1 := hid ((hk1.block _ (lt_of_block HN.out) (by omega)).trans HN.out)
  have HK1 := hid ((kept_below (X := (· = r)) HB0.out).trans hk1)
  have HF : Hid (PbAt (putN w1 w.heap.size zeroN) r la lc L (10, i)) := ⟨show (10 : Int) ≠ 0 by decide, 31, hp1.far_put hrw (fun g hg => putN_other w1 w.heap.size zeroN g hg) (putN_size _ _ _) (fun b off e hL => by have := HUn.out b off e hL; omega)⟩
  obtain ⟨⟨z0, z1, z2⟩, z3, z4, z5⟩ := boxN_facts HN1.out
  have hlt := lt_of_block HN1.out
  clear hk1 hp1
  go_wp2_with fail
  exact bodyPost_ret (nret2 Try.results68 (putN_block zeroN HN1.out) _ rfl rfl) rfl (EPost.bad rfl (putN_kept HK1.out (Nat.le_refl _) zeroN) (by unfold kbX; omega) HF.out)

/-- What stands in the block that is answered, and what it is. -/
structure UnSt (r : Nat) (la : Option Addr) (lc : Nat) (L : List Tk) (d K : Nat) (R : Got (Nd × Nat)) (w : World) (B k : Nat) (x : Nv) (wr : World) : Prop where
  kept : Kept (· = r) w wr
  res : wr.heap[w.heap.size]? = some (boxN zeroN)
  box : wr.heap[B]? = some (boxN x)
  ans : (∃ n, R = .ok (n, k) ∧ NdIs wr (fun b => w.heap.size < b ∧ b ≠ B) x n ∧ PkAt wr r la lc L d ∧ k ≤ L.length) ∨ (∃ y, R = .error y ∧ k ≤ K ∧ PbAt wr r la lc L y)
/-- Back, and answered. -/
theorem UnSt.end {d K B k : Nat} {R : Got (Nd × Nat)} {x : Nv} {wr : World} (h : UnSt r la lc L (d + 1) K R w B k x wr) (hd : d < 1000) (hrw : r < w.heap.size) (hU : ∀ b off, la = some ⟨b, off, none⟩ → L ≠ [] → b < w.heap.size) :
    ∃ (e f a d0 d1 : Int), PxAt wr r la lc L e f a d0 ∧ wrap64 (d0 - 1) = d1 ∧ (wr.setCell ⟨r, 4, none⟩ (.int .i64 d1)).heap[w.heap.size]? = some (boxN zeroN) ∧ ∀ K', K ≤ K' → EPost r la lc L d K' R w (.returned (.tuple #[aggN x, .int .i64 (k : Int)])) (putN (wr.setCell ⟨r, 4, none⟩ (.int .i64 d1)) w.heap.size x) := by
  rcases h.ans with ⟨n, h1, h2, h3, h4⟩ | ⟨y, h1, h2, h3, d0, h4⟩
  · obtain ⟨s1, s2, s3, s4⟩ := sink_put h3 hrw hU h.res (d : Int) x
    refine ⟨_, _, _, _, d, h3, by unfold wrap64; omega, s2, fun K' hK => EPost.good h1 (s4 h.kept (Nat.le_refl _)) ?_ s1 h4⟩
    exact (h2.kept fun b hb hlt => s3 b (by omega) (by omega)).mono fun b hb _ => by omega
  · obtain ⟨s1, s2, s3, s4⟩ := sink_put h4 hrw hU h.res (wrap64 (d0 - 1)) x
    exact ⟨_, _, _, d0, _, h4, rfl, s2, fun K' hK => EPost.bad h1 (s4 h.kept (Nat.le_refl _)) (by omega) ⟨h3, _, s1⟩⟩

/-- A node of one kid, in its own row. -/
theorem one_row {W : World} {A H : Nat} {x : Nv} {m : Nd} (kd t : Int) (hA : A < W.heap.size) (hHA : H < A) (h1 : NdIs W (fun b => H < b ∧ b ≠ A) x m) :
    NdIs (putN (W.alloc (.cells (cellsN [x]).toArray 26)) A ⟨kd, t, some ⟨W.heap.size, 0, none⟩, 1, 1⟩) (fun b => H < b ∧ b ≠ A) ⟨kd, t, some ⟨W.heap.size, 0, none⟩, 1, 1⟩ (.mk kd t [m]) := by
  have hk : KidsAt (W.alloc (.cells (cellsN [x]).toArray 26)) (fun b => H < b ∧ b ≠ A) (.slice (some ⟨W.heap.size, 0, none⟩) 1 1) [m] :=
    kids_new (P := fun b => H < b ∧ b ≠ A) (NdsIs.one h1) (by simp) (fun b hb _ => hb) ⟨by omega, by omega⟩
  exact ⟨rfl, rfl, hk.kept fun b hb _ => putN_other _ _ _ _ hb.2⟩
/-- Behind a sign ahead and its part. -/
theorem un_next {d K i k5 B : Nat} {R : Got (Nd × Nat)} {w w4 w5 : World} {v5 : Nv} (hrw : r < w.heap.size) (hU : ∀ b off, la = some ⟨b, off, none⟩ → L ≠ [] → b < w.heap.size) (hB : w.heap.size < B) (hB4 : B < w4.heap.size)
    (hk4 : Kept (· = r) w w4) (hH : w4.heap[w.heap.size]? = some (boxN zeroN)) (hBx : w4.heap[B]? = some (boxN zeroN)) (hk5 : Kept (· = r) w4 w5)
    (hc : (∃ n, R = .ok (.mk 12 (i : Int) [n], k5) ∧ NdIs w5 (w4.heap.size ≤ ·) v5 n ∧ PkAt w5 r la lc L d ∧ k5 ≤ L.length) ∨ (∃ y, R = .error y ∧ k5 ≤ K ∧ PbAt w5 r la lc L y)) :
    UnSt r la lc L d K R w B k5 ⟨12, i, some ⟨w5.heap.size + 1, 0, none⟩, 1, 1⟩ (((putN w5 B ⟨12, i, some ⟨w5.heap.size + 1, 0, none⟩, 1, 1⟩).alloc (boxN v5)).alloc (.cells (cellsN [v5]).toArray 26)) := by
  have hz := hk5.size
  have hb1 := below_new w5 (boxN v5)
  have hs1 : (w5.alloc (boxN v5)).heap.size = w5.heap.size + 1 := by simp
  have hb2 := below_new (w5.alloc (boxN v5)) (.cells (cellsN [v5]).toArray 26)
  have hb : Below w5.heap.size w5 ((w5.alloc (boxN v5)).alloc (.cells (cellsN [v5]).toArray 26)) := hb1.trans (hb2.mono hb1.size)
  have hH5 : w5.heap[w.heap.size]? = _ := (hk5.block _ (by omega) (by omega)).trans hH
  have hB5 : w5.heap[B]? = _ := (hk5.block _ (by omega) (by omega)).trans hBx
  rw [← putN_past _ _ _ _ (by omega), ← putN_past _ _ _ _ (by simp; omega)]
  refine ⟨putN_kept ((hk4.trans hk5).trans (kept_below hb)) (by omega) _, ?_, putN_block _ (u := zeroN) ((hb.block _ (by omega)).trans hB5), ?_⟩
  · rw [putN_other _ _ _ _ (by omega)]; exact (hb.block _ (by omega)).trans hH5
  · rcases hc with ⟨n, h1, h2, h3, h4⟩ | ⟨y, h1, h2, h3⟩
    · refine .inl ⟨_, h1, ?_, (h3.below hb).far_put (B := B) (by omega) (fun g hg => putN_other _ _ _ _ hg) (putN_size _ _ _) (fun b off e hL => by have := hU b off e hL; omega), h4⟩
      have q2 : NdIs (w5.alloc (boxN v5)) (fun b => w.heap.size < b ∧ b ≠ B) v5 n := (h2.mono (Q := fun b => w.heap.size < b ∧ b ≠ B) fun b hb _ => ⟨by omega, by omega⟩).kept fun b _ hlt => hb1.block b hlt
      have := one_row 12 i (show B < (w5.alloc (boxN v5)).heap.size by omega) hB q2
      rw [hs1] at this
      exact this
    · exact .inr ⟨y, h1, h2, (h3.below hb).far_put (B := B) (by omega) (fun g hg => putN_other _ _ _ _ hg) (putN_size _ _ _) (fun b off e hL => by have := hU b off e hL; omega)⟩

theorem rahead_any (s : ByteArray) : Lib.containsS [⟨#[45]⟩, ⟨#[43]⟩, ⟨#[33]⟩, ⟨#[126]⟩, ⟨#[42]⟩, ⟨#[38]⟩, ⟨#[43, 43]⟩, ⟨#[45, 45]⟩] s = aheadW s.data.toList := by
  rw [cont_any]
  unfold aheadW
  simp only [List.any_cons, List.any_nil, Bool.or_false, Bool.or_assoc]

set_option maxRecDepth 100000 in
set_option maxHeartbeats 4000000 in
theorem uok_step (m : Nat) (hm : m < 30) (hU : UOk r la lc L m) (hP : POk r la lc L m) : UOk r la lc L (m + 1) := by
  intro d i ev w hd h hi
  have hR0 : exR L (m + 1) 1 0 i = if aheadW (wordT L i) = true then match exR L m 1 0 (i + 1) with
      | .error x => .error x
      | .ok (x, k) => .ok (.mk 12 (i : Int) [x], k)
    else postR L (fun l i => exR L m 0 l i) i := rfl
  have hB0 := (Below.refl w.heap.size w).alloc (Nat.le_refl _) (boxN zeroN)
  have HE := hid (enter_ok _ (h.below hB0) (show d < 30 by omega) i)
  have HN := hid (heap_alloc_new w (boxN zeroN))
  have HB0 := hid hB0
  have hrw := h.lt
  have HUn := hid h.under
  have hfew := h.few
  have HUk := hid (fun i' W (hW : PkAt W r la lc L (d + 1)) (h1 : i' ≤ L.length) => hU (d + 1) i' ev W (by omega) hW h1)
  have HPk := hid (fun W (hW : PkAt W r la lc L (d + 1)) => hP (d + 1) i ev W (by omega) hW hi)
  have hks : kbX L m + 4 = kbX L (m + 1) := by unfold kbX; omega
  have hkl : kbX L m ≤ 100000 := by unfold kbX; omega
  generalize hR : exR L (m + 1) 1 0 i = R at hR0
  have HR0 := hid hR0
  have hah := rahead_any (wrdB L i)
  rw [wrdB_is] at hah
  have hip : aheadW (wordT L i) = true → i < L.length := fun h => by
    apply Classical.byContradiction
    intro hn
    rw [show wordT L i = [] by unfold wordT; rw [List.getElem?_eq_none (by omega)]] at h
    cases h
  have hwk : IntKind.i64.wrap ((i : Int) + 1) = ((i + 1 : Nat) : Int) := by rw [IntKind.wrap_i64]; omega
  clear hR hB0 h hU hP hR0
  go_enter Try.func68, Try.ntmps68
  go_wp2_with fail
  refine HE.out.mono ?_
  rintro e1 w1 ⟨rfl, hp1, hk1⟩
  have hN1 := (hk1.block _ (lt_of_block HN.out) (by omega)).trans HN.out
  have hb2 := below_new w1 (boxN zeroN)
  have hN2 := (hb2.block _ (lt_of_block hN1)).trans hN1
  have hB2 := heap_alloc_new w1 (boxN zeroN)
  have hlt1 := lt_of_block hN1
  have HK2 := hid (((kept_below (X := (· = r)) HB0.out).trans hk1).trans (kept_below hb2))
  have HP2 := hid (hp1.below hb2)
  have HN2 := hid hN2
  have HBB := hid hB2
  have HSl := hid (st_lit (w1.alloc (boxN zeroN)) [⟨#[45]⟩, ⟨#[43]⟩, ⟨#[33]⟩, ⟨#[126]⟩, ⟨#[42]⟩, ⟨#[38]⟩, ⟨#[43, 43]⟩, ⟨#[45, 45]⟩] 9)
  have HB3 := hid (below_new (w1.alloc (boxN zeroN)) (.cells (([⟨#[45]⟩, ⟨#[43]⟩, ⟨#[33]⟩, ⟨#[126]⟩, ⟨#[42]⟩, ⟨#[38]⟩, ⟨#[43, 43]⟩, ⟨#[45, 45]⟩] : List ByteArray).map Value.string).toArray 9))
  clear hk1 hp1 HE HN HB0 hb2 hN1 hN2 hB2
  have HP3 := hid (HP2.out.below HB3.out)
  have HN3 := hid ((HB3.out.block _ (lt_of_block HN2.out)).trans HN2.out)
  have HB8 := hid ((HB3.out.block _ (lt_of_block HBB.out)).trans HBB.out)
  have HK3 := hid (HK2.out.trans (kept_below HB3.out))
  have hs1 : (w1.alloc (boxN zeroN)).heap.size = w1.heap.size + 1 := by simp
  have hHs := RHas_any _ 8 _ (wrdB L i) _ HSl.out (by decide)
  rw [hah, hs1, show ([⟨#[45]⟩, ⟨#[43]⟩, ⟨#[33]⟩, ⟨#[126]⟩, ⟨#[42]⟩, ⟨#[38]⟩, ⟨#[43, 43]⟩, ⟨#[45, 45]⟩] : List ByteArray).length = 8 from rfl] at hHs
  have HHs := hid hHs
  clear hHs hs1
  have HWd := hid (pword_any _ HP3.out i)
  generalize wrdB L i = wb at HHs HWd
  clear HSl HB3 HBB HN2 HP2 HK2 hah
  go_wp2_with fail
  refine HWd.out.mono ?_
  rintro e2 w2 ⟨rfl, rfl⟩
  go_wp2_with fail
  refine HHs.out.mono ?_
  rintro e2 w4 ⟨rfl, hb4⟩
  have HP4 := hid (HP3.out.below hb4)
  have HN4 := hid ((hb4.block _ (lt_of_block HN3.out)).trans HN3.out)
  have HB4 := hid ((hb4.block _ (lt_of_block HB8.out)).trans HB8.out)
  have HK4 := hid (HK3.out.trans (kept_below hb4))
  generalize w1.heap.size = B at HB4 hlt1 ⊢
  have hBl : B < w4.heap.size := lt_of_block HB4.out
  have hrB : r ≠ B := by omega
  have hBr : B ≠ r := by omega
  have hHB : w.heap.size ≠ B := by omega
  have hBH : B ≠ w.heap.size := by omega
  have hHr : w.heap.size ≠ r := by omega
  have hrH : r ≠ w.heap.size := by omega
  clear hb4 HHs HWd HP3 HN3 HB8 HK3
  cases hah : aheadW (wordT L i) with
  | true =>
    rw [hah] at HR0
    have HU4 := hid (HUk.out (i + 1) w4 HP4.out (hip hah))
    clear hip hah HUk HPk
    go_wp2_with fail
    refine HU4.out.mono ?_
    rintro e5 w5 hq5
    obtain ⟨v5, k5, rfl, hk5, hc5⟩ := hq5.any
    have HS5 : Hid (UnSt r la lc L (d + 1) (kbX L m) R w B k5 ⟨12, i, some ⟨w5.heap.size + 1, 0, none⟩, 1, 1⟩ (((putN w5 B ⟨12, i, some ⟨w5.heap.size + 1, 0, none⟩, 1, 1⟩).alloc (boxN v5)).alloc (.cells (cellsN [v5]).toArray 26))) := by
      refine un_next hrw HUn.out (by omega) hBl HK4.out HN4.out HB4.out hk5 ?_
      have hR := HR0.out
      rw [if_pos trivial] at hR
      rcases hc5 with ⟨n, h1, h2, h3, h4⟩ | ⟨y, h1, h2, h3⟩
      · rw [h1] at hR
        exact .inl ⟨n, hR, h2, h3, h4⟩
      · rw [h1] at hR
        exact .inr ⟨y, hR, h2, h3⟩
    have hB5 := (hk5.block _ hBl (by omega)).trans HB4.out
    obtain ⟨⟨z0, z1, z2⟩, z3, z4, z5⟩ := boxN_facts hB5
    have hB5l := lt_of_block hB5
    clear hk5 hc5 hq5 HR0
    unfold aggN
    go_upto_region 8 with fail
    change Code.wp _ _ _ _ (((putN w5 B ⟨12, i, some ⟨w5.heap.size + 1, 0, none⟩, 1, 1⟩).alloc (boxN v5)).alloc (.cells (cellsN [v5]).toArray 26))
    clear z0 z1 z2 z3 z4 z5
    generalize ((putN w5 B ⟨12, i, some ⟨w5.heap.size + 1, 0, none⟩, 1, 1⟩).alloc (boxN v5)).alloc (.cells (cellsN [v5]).toArray 26) = w6 at HS5 ⊢
    obtain ⟨qe, qf, qa, q0, q1, hPx, hw1, hres, HEnd⟩ := HS5.out.end (by omega) hrw HUn.out
    obtain ⟨⟨b0, b1, b2, b3, b4⟩, g1, g2, g3, g4⟩ := hPx.facts
    obtain ⟨⟨a0, a1, a2⟩, _⟩ := boxN_facts HS5.out.box
    obtain ⟨⟨z0, z1, z2⟩, z3, z4, z5⟩ := boxN_facts HS5.out.res
    have hr6 := hPx.lt
    have hH6 := lt_of_block HS5.out.res
    have hB6 := lt_of_block HS5.out.box
    have HX := hid (And.intro hres HEnd)
    clear hPx hres HEnd b1 b2 b3 g1 g2 g3
    go_wp2_with fail
    exact bodyPost_ret (nret2 Try.results68 (putN_block ⟨12, i, some ⟨w5.heap.size + 1, 0, none⟩, 1, 1⟩ HX.out.1) _ rfl rfl) rfl (HX.out.2 _ (by omega))
  | false =>
    rw [hah] at HR0
    have HP5 := hid (HPk.out w4 HP4.out)
    clear hip hah HUk HPk
    go_wp2_with fail
    refine HP5.out.mono ?_
    rintro e5 w5 hq5
    obtain ⟨v5, k5, rfl, hk5, hc5⟩ := hq5.any
    have hN5 := (hk5.block _ (lt_of_block HN4.out) (by omega)).trans HN4.out
    have hB5 := (hk5.block _ hBl (by omega)).trans HB4.out
    have HS5 : Hid (UnSt r la lc L (d + 1) (kbX L m + 2) R w B k5 v5 (putN w5 B v5)) := by
      refine ⟨putN_kept (HK4.out.trans hk5) (by omega) _, (putN_other _ _ _ _ (by omega)).trans hN5, putN_block _ hB5, ?_⟩
      rcases hc5 with ⟨n, h1, h2, h3, h4⟩ | ⟨y, h1, h2, h3⟩
      · refine .inl ⟨n, by rw [HR0.out]; exact h1, ?_, h3.far_put (B := B) (by omega) (fun g hg => putN_other _ _ _ _ hg) (putN_size _ _ _) (fun b off e hL => by have := HUn.out b off e hL; omega), h4⟩
        exact (h2.mono (Q := fun b => w.heap.size < b ∧ b ≠ B) fun b hb _ => ⟨by omega, by omega⟩).kept fun b hb _ => putN_other _ _ _ _ hb.2
      · exact .inr ⟨y, by rw [HR0.out]; exact h1, h2, h3.far_put (B := B) (by omega) (fun g hg => putN_other _ _ _ _ hg) (putN_size _ _ _) (fun b off e hL => by have := HUn.out b off e hL; omega)⟩
    obtain ⟨⟨z0, z1, z2⟩, z3, z4, z5⟩ := boxN_facts hB5
    have hB5l := lt_of_block hB5
    clear hk5 hc5 hq5 HR0
    unfold aggN
    go_upto_region 8 with fail
    change Code.wp _ _ _ _ (putN w5 B v5)
    clear z0 z1 z2 z3 z4 z5
    generalize putN w5 B v5 = w6 at HS5 ⊢
    obtain ⟨qe, qf, qa, q0, q1, hPx, hw1, hres, HEnd⟩ := HS5.out.end (by omega) hrw HUn.out
    obtain ⟨⟨b0, b1, b2, b3, b4⟩, g1, g2, g3, g4⟩ := hPx.facts
    obtain ⟨⟨a0, a1, a2⟩, _⟩ := boxN_facts HS5.out.box
    obtain ⟨⟨z0, z1, z2⟩, z3, z4, z5⟩ := boxN_facts HS5.out.res
    have hr6 := hPx.lt
    have hH6 := lt_of_block HS5.out.res
    have hB6 := lt_of_block HS5.out.box
    have HX := hid (And.intro hres HEnd)
    clear hPx hres HEnd b1 b2 b3 g1 g2 g3
    go_wp2_with fail
    exact bodyPost_ret (nret2 Try.results68 (putN_block v5 HX.out.1) _ rfl rfl) rfl (HX.out.2 _ (by omega))
end
end
section
open Go.RowKit Go.Shelf

/-- A node in block B, its row its own; S: blocks that no kid lies in. -/
structure GrowAt (base : Nat) (S : Nat → Prop) (B : Nat) (kd tk : Int) (nvs : List Nv) (a : Option Addr) (c : Nat) (W : World) : Prop where
  box : W.heap[B]? = some (boxN ⟨kd, tk, a, nvs.length, c⟩)
  row : W.ownsRow base 26 3 (.slice a nvs.length c) nvs.length (cellsN nvs)
  ne : ∀ b, S b → (Value.slice a nvs.length c).ownBlock ≠ some b
/-- Where its kids may lie. -/
abbrev kidP (base : Nat) (S : Nat → Prop) (a : Option Addr) (n c : Nat) : Nat → Prop := fun b => base ≤ b ∧ ¬ S b ∧ (Value.slice a n c).ownBlock ≠ some b
theorem kept_grow {X : Nat → Prop} {w W W' : World} {row : Option Nat} (h : Kept X w W) (hg : W.grownBy W' row) (hr : ∀ b, row = some b → w.heap.size ≤ b) : Kept X w W' :=
  ⟨hg.os.trans h.os, hg.tape.trans h.tape, hg.output.trans h.output, Nat.le_trans h.size hg.size, fun b hb hx => (hg.block b (Nat.lt_of_lt_of_le hb h.size) (fun e => by have := hr b e.symm; omega)).trans (h.block b hb hx)⟩
theorem own_at {W : World} {base : Nat} {v : Value} {n : Nat} {xs : List Value} (h : W.ownsRow base 26 3 v n xs) {b : Nat} (hb : v.ownBlock = some b) : base ≤ b ∧ b < W.heap.size := h.lt b hb
section
variable {base : Nat} {S : Nat → Prop} {B : Nat} {kd tk : Int} {nvs : List Nv} {a : Option Addr} {c : Nat} {W W' : World}
theorem GrowAt.kept {X : Nat → Prop} (h : GrowAt base S B kd tk nvs a c W) (hk : Kept X W W') (hB : ¬ X B) (hX : ∀ b, X b → b < base) : GrowAt base S B kd tk nvs a c W' :=
  ⟨(hk.block B (lt_of_block h.box) hB).trans h.box, row_same h.row fun b hb hlt => hk.block b hlt (fun hx => by have := (own_at h.row hb).1; have := hX b hx; omega), h.ne⟩
theorem GrowAt.below (h : GrowAt base S B kd tk nvs a c W) (hb : Below W.heap.size W W') : GrowAt base S B kd tk nvs a c W' :=
  ⟨(hb.block B (lt_of_block h.box)).trans h.box, row_same h.row fun b _ hlt => hb.block b hlt, h.ne⟩
/-- As it stands, it is a tree. -/
theorem GrowAt.nd {ks : List Nd} (h : GrowAt base S B kd tk nvs a c W) (hn : NdsIs W (kidP base S a nvs.length c) nvs ks) {Q : Nat → Prop} (hQ : ∀ b, base ≤ b → ¬ S b → Q b) : NdIs W Q ⟨kd, tk, a, nvs.length, c⟩ (.mk kd tk ks) :=
  ⟨rfl, rfl, KidsAt.of_row h.row (hn.mono fun b hb _ => hQ b hb.1 hb.2.1) fun b hb => hQ b (own_at h.row hb).1 (fun hs => h.ne b hs hb)⟩
/-- A row of one, just made. -/
theorem grow_one {x : Nv} (kd tk : Int) (hB : B < W.heap.size) (hbase : base ≤ W.heap.size) (hS : ∀ b, S b → b < W.heap.size) {u : Nv} (hb : W.heap[B]? = some (boxN u)) :
    GrowAt base S B kd tk [x] (some ⟨W.heap.size, 0, none⟩) 1 (putN (W.alloc (.cells (cellsN [x]).toArray 26)) B ⟨kd, tk, some ⟨W.heap.size, 0, none⟩, 1, 1⟩) := by
  refine ⟨putN_block _ (u := u) (((below_new W _).block B hB).trans hb), ?_, fun b hs e => ?_⟩
  · have h := new_row W [x] (by simp)
    refine row_same (h := ⟨h.1, h.2.imp id fun ⟨g, cap, cur, e, hg, r⟩ => ⟨g, cap, cur, e, by omega, r⟩⟩) fun b hb _ => putN_other _ _ _ _ ?_
    have : W.heap.size = b := by simpa [Value.ownBlock] using hb
    omega
  · have : W.heap.size = b := by simpa [Value.ownBlock] using e
    have := hS b hs
    omega
/-- Some more in its row. -/
theorem GrowAt.more {w7 : World} {us : List Nv} {v' : Value} (h : GrowAt base S B kd tk nvs a c W) (hSB : S B) (hS : ∀ b, S b → b < W.heap.size) (hown : w7.ownsRow base 26 3 v' (nvs ++ us).length (cellsN (nvs ++ us))) (hg : W.grownBy w7 (Value.slice a nvs.length c).ownBlock)
    (hob : v'.ownBlock = (Value.slice a nvs.length c).ownBlock ∨ v'.ownBlock = some W.heap.size) :
    ∃ a1 c1, v' = .slice a1 (nvs ++ us).length c1 ∧ w7.heap[B]? = some (boxN ⟨kd, tk, a, nvs.length, c⟩) ∧ GrowAt base S B kd tk (nvs ++ us) a1 c1 (w7.setCell ⟨B, 2, none⟩ v') ∧
      (∀ b, b < W.heap.size → (Value.slice a nvs.length c).ownBlock ≠ some b → b ≠ B → (w7.setCell ⟨B, 2, none⟩ v').heap[b]? = W.heap[b]?) ∧
      (∀ {us' : List Nv} {ks : List Nd}, NdsIs W (kidP base S a nvs.length c) us' ks → NdsIs (w7.setCell ⟨B, 2, none⟩ v') (kidP base S a1 (nvs ++ us).length c1) us' ks) ∧
      ∀ {X : Nat → Prop} {w : World}, Kept X w W → w.heap.size ≤ base → w.heap.size ≤ B → Kept X w (w7.setCell ⟨B, 2, none⟩ v') := by
  have hlb := lt_of_block h.box
  have hbl : ∀ b, b < W.heap.size → (Value.slice a nvs.length c).ownBlock ≠ some b → w7.heap[b]? = W.heap[b]? := fun b hb hne => hg.block b hb (fun e => hne e.symm)
  obtain ⟨a1, c1, rfl⟩ := row_val hown
  have hneB := h.ne B hSB
  have hN7 := (hbl B hlb hneB).trans h.box
  have hso : ∀ b, b ≠ B → (w7.setCell ⟨B, 2, none⟩ (.slice a1 (nvs ++ us).length c1)).heap[b]? = w7.heap[b]? := fun b hb => Below.heap_setCell _ _ _ _ hb
  have hne' : ∀ b, b < W.heap.size → (Value.slice a nvs.length c).ownBlock ≠ some b → (Value.slice a1 (nvs ++ us).length c1).ownBlock ≠ some b := fun b hb hn e => by
    rcases hob with e' | e'
    · exact hn (e' ▸ e)
    · rw [e'] at e
      injection e with e
      omega
  refine ⟨a1, c1, rfl, hN7, ⟨(Go.Joins.block_setCell (i := 2) hN7 _).trans rfl, row_same hown fun b hb _ => hso b fun e => ?_, fun b hs => hne' b (hS b hs) (h.ne b hs)⟩, fun b hb hn hbB => (hso b hbB).trans (hbl b hb hn), fun {us' ks} hn => ?_, fun {X w} hk hw hwB => ?_⟩
  · subst e
    exact hne' b hlb hneB hb
  · refine ((hn.mono (Q := fun b => kidP base S a nvs.length c b ∧ b < W.heap.size) fun b hb hlt => ⟨hb, hlt⟩).kept (w' := w7) fun b hb hlt => hbl b hlt hb.1.2.2).kept (fun b hb _ => hso b fun e => hb.1.2.1 (e ▸ hSB)) |>.mono fun b hb _ => ⟨hb.1.1, hb.1.2.1, hne' b hb.2 hb.1.2.2⟩
  · exact Kept.setFar (kept_grow hk hg fun b hb => by have := (own_at h.row hb).1; omega) hwB _
end
end
end Go.Proofs.Ytkfbhknhjpmomaa
