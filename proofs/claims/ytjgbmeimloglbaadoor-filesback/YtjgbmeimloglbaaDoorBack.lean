/- The statement FilesBack: at every input it returns true. -/
import Derived.Test.YtjgbmeimloglbaaDoorAlive
import Derived.Test.YtjgbmeimloglbaaDoorSame
import Derived.Test.YtjgbmeimloglbaaDoorBackFacts
import Derived.Deep.RegionHeld3
namespace Go.Proofs.YtjgbmeimloglbaaDoor
open Go.RowKit Go.Shelf

theorem one_edit (w : World) (f lo hi : Int) (U : ByteArray) : EAt (w.alloc (.cells #[.int .i64 f, .int .i64 lo, .int .i64 hi, .string U] 41)) (some ⟨w.heap.size, 0, none⟩) [(f, lo, hi, U)] := by
  refine .inr ⟨w.heap.size, 0, rfl, by simp, fun j x hx i v hv => ?_⟩
  rw [World.cell?_alloc_mark]
  match j, hx with
  | 0, hx =>
    cases hx
    match i, hv with
    | 0, hv => cases hv; rfl
    | 1, hv => cases hv; rfl
    | 2, hv => cases hv; rfl
    | 3, hv => cases hv; rfl
    | i + 4, hv => simp [encE] at hv
  | j + 1, hx => simp at hx

/-- A call of Change with one edit, which the caller has just laid. -/
theorem change_one (a : Option Addr) (cap : Nat) (fs : List Src) (f lo hi : Int) (U : ByteArray) (w : World) (hm : Mx w) (hF : FAt w a fs) (hn : fs.length ≤ 140737488355328) (hz : ∀ x ∈ fs, x.1.size ≤ 140737488355328 ∧ x.2.size ≤ 140737488355328) (hU : U.size ≤ 140737488355328) :
    Calls Tryd.prog 17 #[.slice a fs.length cap, .slice (some ⟨w.heap.size, 0, none⟩) 1 1] (w.alloc (.cells #[.int .i64 f, .int .i64 lo, .int .i64 hi, .string U] 41))
      fun e w' => ∃ a' c', e = .returned (.tuple #[.slice a' (changeF fs [(f, lo, hi, U)]).1.length c', .int .i64 (changeF fs [(f, lo, hi, U)]).2]) ∧ FAt w' a' (changeF fs [(f, lo, hi, U)]).1 ∧ Below w.heap.size w w' := by
  have hb : Below w.heap.size w (w.alloc (.cells #[.int .i64 f, .int .i64 lo, .int .i64 hi, .string U] 41)) := (Below.refl _ w).alloc (Nat.le_refl _) _
  refine (Change_any a (some ⟨w.heap.size, 0, none⟩) cap 1 fs [(f, lo, hi, U)] _ (hm.below hb) (hF.below hb) (one_edit w f lo hi U) (by unfold maxLen; omega) (by simp) (fun x hx => by have := hz x hx; unfold maxLen; omega) (fun x hx => by obtain rfl := List.mem_singleton.1 hx; exact hU)).mono ?_
  rintro e w' ⟨a', c', he, hFA, hbb⟩
  exact ⟨a', c', he, hFA, hb.trans (hbb.mono hb.size)⟩

/-- The edit that came in, in its own block. -/
theorem edit_cells (w W : World) (f lo hi : Int) (U : ByteArray) (h : Below (w.alloc (.cells #[.int .i64 f, .int .i64 lo, .int .i64 hi, .string U] 41)).heap.size (w.alloc (.cells #[.int .i64 f, .int .i64 lo, .int .i64 hi, .string U] 41)) W) :
    W.cell? ⟨w.heap.size, 0, none⟩ = some (.int .i64 f) ∧ W.cell? ⟨w.heap.size, 1, none⟩ = some (.int .i64 lo) ∧ W.cell? ⟨w.heap.size, 2, none⟩ = some (.int .i64 hi) ∧ W.cell? ⟨w.heap.size, 3, none⟩ = some (.string U) := by
  have hlt : w.heap.size < (w.alloc (.cells #[.int .i64 f, .int .i64 lo, .int .i64 hi, .string U] 41)).heap.size := by simp
  refine ⟨?_, ?_, ?_, ?_⟩ <;> rw [h.cell (p := ⟨w.heap.size, _, none⟩) hlt, World.cell?_alloc_mark] <;> rfl

theorem five_keep {w W : World} {p0 p1 p2 p3 p4 : Addr} {v0 v1 v2 v3 v4 : Value} (h0 : w.cell? p0 = some v0) (h1 : w.cell? p1 = some v1) (h2 : w.cell? p2 = some v2) (h3 : w.cell? p3 = some v3) (h4 : w.cell? p4 = some v4) (hb : Below w.heap.size w W) :
    W.cell? p0 = some v0 ∧ W.cell? p1 = some v1 ∧ W.cell? p2 = some v2 ∧ W.cell? p3 = some v3 ∧ W.cell? p4 = some v4 :=
  ⟨(hb.cell (World.block_lt_of_cell? _ _ h0)).trans h0, (hb.cell (World.block_lt_of_cell? _ _ h1)).trans h1, (hb.cell (World.block_lt_of_cell? _ _ h2)).trans h2, (hb.cell (World.block_lt_of_cell? _ _ h3)).trans h3, (hb.cell (World.block_lt_of_cell? _ _ h4)).trans h4⟩

set_option maxRecDepth 100000 in
set_option maxHeartbeats 1000000 in
theorem Back_walk (a : Option Addr) (cap : Nat) (fs : List Src) (f lo hi : Int) (U : ByteArray) (w : World) (hm : Mx w) (hF : FAt w a fs) (hn : fs.length ≤ 140737488355328) (hz : ∀ x ∈ fs, x.1.size ≤ 140737488355328 ∧ x.2.size ≤ 140737488355328) (hU : U.size ≤ 140737488355328) :
    Calls Tryd.prog 5 #[.slice a fs.length cap, .agg #[.int .i64 f, .int .i64 lo, .int .i64 hi, .string U]] w fun e w' => e = .returned (.bool true) ∧ Below w.heap.size w w' := by
  have HW0 : Hid (Below w.heap.size w (w.alloc (.cells #[.int .i64 f, .int .i64 lo, .int .i64 hi, .string U] 41))) := (Below.refl _ w).alloc (Nat.le_refl _) _
  have HAl := hid (alive_any (w.alloc (.cells #[.int .i64 f, .int .i64 lo, .int .i64 hi, .string U] 41)) (hm.below HW0.out))
  have HX := hid (fun W => edit_cells w W f lo hi U)
  have HC1 := hid (fun W (h : Below w.heap.size w W) => change_one a cap fs f lo hi U W (hm.below h) (hF.below h) hn hz hU)
  have hz0 : ∀ e m, changeF fs [(f, lo, hi, U)] = (m, e) → e ≠ 0 → m = [] := fun e m h => change_zero h
  have hbk := back_plain fs f lo hi U
  generalize changeF fs [(f, lo, hi, U)] = me at HC1 hz0 hbk
  obtain ⟨m, er⟩ := me
  dsimp only at HC1
  have hz1 := hz0 er m rfl
  have HBk := hid hbk
  clear hz0 hbk
  go_enter Tryd.func5, Tryd.ntmps5
  go_wp2_with fail
  refine HAl.out.mono ?_
  rintro e w1 ⟨rfl, hb1⟩
  have HX1 := hid hb1
  have HB1 := hid (HW0.out.trans (hb1.mono HW0.out.size))
  obtain ⟨x0, x1, x2, x3⟩ := HX.out w1 hb1
  clear hb1
  go_wp2_with fail
  refine (HC1.out w1 HB1.out).mono ?_
  rintro e w2 ⟨a', c', rfl, hFm, hb2⟩
  have HB2 := hid (HB1.out.trans (hb2.mono HB1.out.size))
  have HX2 := hid (HX1.out.trans (hb2.mono HX1.out.size))
  have HFm := hid hFm
  clear hb2 hFm HC1 x0 x1 x2 x3
  obtain ⟨x0, x1, x2, x3⟩ := HX.out w2 HX2.out
  by_cases he : er = 0
  · subst he
    obtain ⟨i, x, y, s, rfl, rfl, rfl, hfi, hxy, hys, hs3, h8, hml, hU3, hms, hch⟩ := HBk.out m rfl
    have hil : i < fs.length := (List.getElem?_eq_some_iff.1 hfi).1
    rcases id hF with h0 | ⟨b, off, rfl, hb, hc⟩
    · rw [h0] at hil; simp at hil
    have ct := (hc i s hfi).2
    rw [← HB2.out.cell (p := ⟨b, _, none⟩) hb] at ct
    have hex : (s.2.extract x y).size ≤ 140737488355328 := by simp [ByteArray.size_extract]; omega
    have HC2 := hid (change_one a' c' m i x ((x + U.size : Nat) : Int) (s.2.extract x y) w2.drew (hm.below HB2.out.drew) (HFm.out.below (Below.refl _ _).drew) (by omega) (fun z hz => by have := hms z hz; omega) hex)
    rw [hch] at HC2
    dsimp only at HC2
    generalize s.2 = T at ct HC2 hys hs3
    rw [hml, Int.natCast_add] at HC2
    have hwr : IntKind.i64.wrap ((x : Int) + (U.size : Int)) = (x : Int) + (U.size : Int) := by have := wrap_small (x + U.size) (by omega); rw [Int.natCast_add] at this; exact this
    clear hc hms hex hch HFm hz HBk HAl
    go_wp2_with fail
    go_region_held3 (fun W => W.cell? ⟨w.heap.size, 0, none⟩ = some (.int .i64 i) ∧ W.cell? ⟨w.heap.size, 1, none⟩ = some (.int .i64 x) ∧ W.cell? ⟨w.heap.size, 2, none⟩ = some (.int .i64 y) ∧ W.cell? ⟨w.heap.size, 3, none⟩ = some (.string U) ∧ W.cell? ⟨b, off + i * 2 + 1, none⟩ = some (.string T))
      (first | exact five_keep x0 x1 x2 x3 ct (Below.refl _ _).drew | exact five_keep x0 x1 x2 x3 ct ((Below.refl _ w2).drew.alloc (Nat.le_refl _) _) | exact five_keep x0 x1 x2 x3 ct ((Below.refl _ w2).drew.trans hb3))
      ((go_at_call 17; refine HC2.out.mono ?_; rintro e w3 ⟨a2, c2, rfl, hF3, hb3⟩))
    have HB3 := hid (HB2.out.trans ((Below.refl _ w2).drew.trans hb3 |>.mono HB2.out.size))
    have HSm := hid (Same_any a2 (some ⟨b, off, none⟩) c2 cap fs w3 hF3 (hF.below HB3.out) (by unfold maxLen; omega))
    clear hb3 hF3 HC2 x0 x1 x2 x3 ct
    go_wp2_with fail
    refine HSm.out.mono ?_
    rintro e w4 ⟨rfl, hb4⟩
    have HB4 := hid (HB3.out.trans (hb4.mono HB3.out.size))
    clear hb4
    go_wp2_with fail
    go_ret
    exact ⟨rfl, HB4.out⟩
  · have hm0 := hz1 he
    subst hm0
    have hd : (er != 0) = true := by simpa using he
    go_wp2_with fail
    go_ret
    exact ⟨rfl, HB2.out⟩

end Go.Proofs.YtjgbmeimloglbaaDoor
