/- The statement FilesOrder: at every input it returns true. -/
import Derived.Test.YthklodlhbafehaaDoorAlive
import Derived.Test.YthklodlhbafehaaDoorSame
import Derived.Test.YthklodlhbafehaaDoorTurnedFacts
namespace Go.Proofs.YthklodlhbafehaaDoor
open Go.RowKit Go.Shelf

/-- What holds at a round's head: the first k edits of the turned list lie in a row of the call's own. -/
structure TurnAt (es : List Ed) (k : Nat) (v : Value) (w1 wr : World) : Prop where
  old : Below w1.heap.size w1 wr
  own : wr.ownsRow w1.heap.size 41 4 v k (cellsE (es.reverse.take k))

theorem TurnAt.next {es : List Ed} {k : Nat} {v v' : Value} {w1 wr w2 : World} {X : Obj} {x : Ed} (h : TurnAt es k v w1 wr) (hx : es.reverse[k]? = some x)
    (hg : (wr.alloc X).grownBy w2 v.ownBlock) (hown : w2.ownsRow w1.heap.size 41 4 v' (k + 1) (cellsE (es.reverse.take k) ++ encE x)) : TurnAt es (k + 1) v' w1 w2 := by
  refine ⟨(h.old.alloc h.old.size X).grown hg (by have := h.old.size; simp; omega) (fun j e => (h.own.lt j e).1), ?_⟩
  have : es.reverse.take (k + 1) = es.reverse.take k ++ [x] := by rw [List.take_add_one, hx]; rfl
  rw [this, cellsE_snoc]
  exact hown

/-- A call of Change, as the statement makes it. -/
theorem change_at (a a2 : Option Addr) (cap cap2 : Nat) (fs : List Src) (es : List Ed) (w : World) (hm : Mx w) (hF : FAt w a fs) (hE : EAt w a2 es) (hn : fs.length ≤ 140737488355328) (hz : ∀ x ∈ fs, x.1.size ≤ 140737488355328 ∧ x.2.size ≤ 140737488355328) (hn2 : es.length * 40 ≤ 140737488355328) (hU : ∀ e ∈ es, e.text.size ≤ 140737488355328) :
    Calls Tryd.prog 17 #[.slice a fs.length cap, .slice a2 es.length cap2] w
      fun e w' => ∃ a' c', e = .returned (.tuple #[.slice a' (changeF fs es).1.length c', .int .i64 (changeF fs es).2]) ∧ FAt w' a' (changeF fs es).1 ∧ Below w.heap.size w w' :=
  Change_any a a2 cap cap2 fs es w hm hF hE (by unfold maxLen; omega) (by omega) (fun x hx => by have := hz x hx; unfold maxLen; omega) hU

theorem go_length (k : Nat) : ∀ (fs : List Src) (es : List Ed) (m : List Src), changeGo k fs es = some m → m.length = fs.length := by
  intro fs
  induction fs generalizing k with
  | nil => intro es m h; simp [changeGo] at h; subst h; rfl
  | cons x r ih =>
    intro es m h
    rw [changeGo_cons] at h
    split at h
    · rw [Option.map_eq_some_iff] at h
      obtain ⟨l, hl, rfl⟩ := h
      simp [ih (k + 1) _ _ hl]
    · cases h
theorem change_few (fs : List Src) (es : List Ed) {n : Nat} (h : fs.length ≤ n) : (changeF fs es).1.length ≤ n := by
  unfold changeF
  split
  · simp
  · split
    · simp
    · split
      · simp
      · rename_i ho; rw [go_length _ _ _ _ ho]; exact h

set_option maxRecDepth 100000 in
set_option maxHeartbeats 1000000 in
theorem Turned_walk (a a2 : Option Addr) (cap cap2 : Nat) (fs : List Src) (es : List Ed) (w : World) (hm : Mx w) (hF : FAt w a fs) (hE : EAt w a2 es) (hn : fs.length ≤ 140737488355328) (hz : ∀ x ∈ fs, x.1.size ≤ 140737488355328 ∧ x.2.size ≤ 140737488355328) (hn2 : es.length * 40 ≤ 140737488355328) (hU : ∀ e ∈ es, e.text.size ≤ 140737488355328) :
    Calls Tryd.prog 4 #[.slice a fs.length cap, .slice a2 es.length cap2] w fun e w' => e = .returned (.bool true) ∧ Below w.heap.size w w' := by
  have HAl := hid (alive_any w hm)
  obtain ⟨i0, hi, hz0, hz1, hz2⟩ := info_parts info_edit
  go_enter Tryd.func4, Tryd.ntmps4
  go_wp2_with fail
  refine HAl.out.mono ?_
  rintro e w1 ⟨rfl, hb1⟩
  have HB1 := hid hb1
  clear hb1
  go_wp2_with fail
  go_loopw [5, 6, 16] (fun v _ i wr => ∃ k : Nat, k ≤ es.length ∧ i = .int .i64 k ∧ Hid (TurnAt es k v w1 wr)) (fun _ _ i _ => es.length - (intOf i).toNat)
  case atStart => exact ⟨0, Nat.zero_le _, rfl, ⟨Below.refl _ _, ⟨by simp [cellsE], .inl ⟨rfl, rfl⟩⟩⟩⟩
  case round =>
    obtain ⟨k, hk, rfl, HR⟩ := hrel
    by_cases hlt : k < es.length
    · obtain ⟨q, hq⟩ : ∃ q, es.length = q + 1 + k := ⟨es.length - 1 - k, by omega⟩
      have hql : q < es.length := by omega
      have hgx : es[q]? = some es[q] := List.getElem?_eq_getElem hql
      have hrx : es.reverse[k]? = some es[q] := by rw [List.getElem?_reverse hlt, show es.length - 1 - k = q by omega]; exact hgx
      rcases id hE with h0 | ⟨b, off, rfl, hb, hc⟩
      · rw [h0] at hlt; simp at hlt
      have hbb : b < w1.heap.size := by have := HB1.out.size; omega
      have hc' : ∀ i v, (encE es[q])[i]? = some v → wr.cell? ⟨b, off + q * 4 + i, none⟩ = some v := fun i v hv => by
        rw [HR.out.old.cell (p := ⟨b, _, none⟩) hbb, HB1.out.cell (p := ⟨b, _, none⟩) hb]; exact hc q _ hgx i v hv
      generalize es[q] = x at hrx hc'
      obtain ⟨f, lo, hi', U⟩ := x
      have c0 := hc' 0 _ rfl
      have c1 := hc' 1 _ rfl
      have c2 := hc' 2 _ rfl
      have c3 := hc' 3 _ rfl
      simp only [Nat.add_zero, Ed.file, Ed.lo, Ed.hi, Ed.text] at c0 c1 c2 c3
      have hix : (es.length : Int) - 1 - (k : Int) = (q : Int) := by omega
      have hown := HR.out.own
      have HX := hid hrx
      clear hc hc' hgx hq hrx
      go_wp2_with (at_builtin; refine wpList_append_own _ rfl _ _ 24 rfl w1.heap.size 41 i0 _ 4 40 Tryd.underlying24 hi hz0 hz1 hz2 rfl (by decide) _ _ _ rfl (hown.alloc _) ⟨wr.heap.size, 0, none⟩ 1 1 (encE (f, lo, hi', U)) rfl rfl (four_new wr f lo hi' U _) (four_one _) (by unfold maxLen; omega) (by omega) (by have := HR.out.old.size; simp; omega) ?_)
      intro v' w2 hown2 hg2 _
      have HN := hid (HR.out.next HX.out hg2 hown2)
      obtain ⟨av, nv, cv, rfl⟩ := row_slice hown2
      clear hown2 hg2 HR hown
      go_wp2
      go_roundw
      case rel => exact ⟨k + 1, by omega, by go_num, HN.out⟩
      case measure => simp [intOf]; omega
    · have hke : k = es.length := by omega
      subst hke
      have hown := HR.out.own
      rw [List.take_of_length_le (by simp), ← List.length_reverse] at hown
      obtain ⟨at3, ct3, rfl, hE3⟩ := EAt.of_row hown
      have HB2 := hid (HB1.out.trans (HR.out.old.mono HB1.out.size))
      have HE3 := hid hE3
      rw [List.length_reverse] at *
      have hct := change_turned fs es es.reverse (List.reverse_perm es).symm
      have hcn := change_none fs
      have HC1 := hid (change_at a a2 cap cap2 fs es wr (hm.below HB2.out) (hF.below HB2.out) (hE.below HB2.out) hn hz hn2 hU)
      have HC2 := hid (fun W (h : Below wr.heap.size wr W) => change_at a at3 cap ct3 fs es.reverse W (hm.below (HB2.out.trans (h.mono HB2.out.size))) (hF.below (HB2.out.trans (h.mono HB2.out.size))) (HE3.out.below h) hn hz (by rw [List.length_reverse]; exact hn2) (fun e he => hU e (List.mem_reverse.1 he)))
      have HC3 := hid (fun W (h : Below w.heap.size w W) => change_at a none cap 0 fs [] W (hm.below h) (hF.below h) (.inl rfl) hn hz (by simp) (fun e he => by cases he))
      have HW := hid (fun W (h : Below w.heap.size w W) => Wrong_any a cap fs W (hm.below h) (hF.below h) (fun x hx => by have := hz x hx; unfold maxLen; omega) (by unfold maxLen; omega))
      rw [List.length_reverse] at HC2
      have hl1 : (changeF fs es).1.length ≤ maxLen := change_few fs es (by unfold maxLen; omega)
      generalize changeF fs es = r1 at HC1 hct hl1
      generalize changeF fs es.reverse = r2 at HC2 hct
      generalize changeF fs [] = r3 at HC3 hcn
      generalize wrongF fs = wf at HW hcn
      obtain ⟨m, e1⟩ := r1
      obtain ⟨m2, e2⟩ := r2
      obtain ⟨m3, e3⟩ := r3
      obtain ⟨f1, f2⟩ := wf
      obtain ⟨rfl, hee⟩ := hct
      obtain ⟨rfl, hm3⟩ := hcn
      dsimp only at *
      have HM3 := hid hm3
      have hb12 : (e1 == 0) = (e2 == 0) := by rw [Bool.eq_iff_iff, beq_iff_eq, beq_iff_eq]; exact hee
      clear hown hE3 HR HAl hm3 hee
      go_wp2_with fail
      refine HC1.out.mono ?_
      rintro e w3 ⟨a3, c3, rfl, hF3, hb3⟩
      have HB3 := hid hb3
      have HF3 := hid hF3
      clear hb3 hF3 HC1
      go_wp2_with fail
      refine (HC2.out w3 HB3.out).mono ?_
      rintro e w4 ⟨a4, c4, rfl, hF4, hb4⟩
      have HB4 := hid (HB2.out.trans (HB3.out.trans (hb4.mono HB3.out.size) |>.mono HB2.out.size))
      have HSm := hid (Same_any a3 a4 c3 c4 m w4 (HF3.out.below hb4) hF4 hl1)
      clear hb4 hF4 HC2 HF3 HB3
      go_wp2_with fail
      refine HSm.out.mono ?_
      rintro e w5 ⟨rfl, hb5⟩
      have HB5 := hid (HB4.out.trans (hb5.mono HB4.out.size))
      clear hb5 HSm HB4
      go_wp2_with fail
      refine (HC3.out w5 HB5.out).mono ?_
      rintro e w6 ⟨a6, c6, rfl, hF6, hb6⟩
      have HB6 := hid (HB5.out.trans (hb6.mono HB5.out.size))
      have HF6 := hid hF6
      clear hb6 hF6 HC3 HB5
      go_wp2_with fail
      refine (HW.out w6 HB6.out).mono ?_
      rintro e w7 ⟨rfl, hb7⟩
      have HB7 := hid (HB6.out.trans (hb7.mono HB6.out.size))
      have HF7 := hid (HF6.out.below hb7)
      clear hb7 HW HB6 HF6
      have hfld := fun W => field_err e3 f2 0 W
      by_cases he : e3 = 0
      · subst he
        have hmf : m3 = fs := HM3.out rfl
        subst hmf
        have HSm := hid (Same_any a6 a c6 cap m3 w7 HF7.out (hF.below HB7.out) (by unfold maxLen; omega))
        go_wp2_with fail
        refine HSm.out.mono ?_
        rintro e w8 ⟨rfl, hb8⟩
        have HB8 := hid (HB7.out.trans (hb8.mono HB7.out.size))
        clear hb8 HSm
        go_wp2_with fail
        go_ret
        exact ⟨rfl, HB8.out⟩
      · have hd : (e3 != 0) = true := by simpa using he
        go_wp2_with fail
        go_ret
        exact ⟨rfl, HB7.out⟩

end Go.Proofs.YthklodlhbafehaaDoor
