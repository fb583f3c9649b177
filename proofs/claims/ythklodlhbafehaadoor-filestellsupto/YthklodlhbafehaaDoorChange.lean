/- Walk of Change: a call returns files with each edit done, or what is wrong, and leaves all that lay in memory as it was. -/
import Derived.Test.YthklodlhbafehaaDoorSpec
namespace Go.Proofs.YthklodlhbafehaaDoor
open Go.RowKit Go.Shelf

/-- What a call of Change leaves. -/
def ChangePost (fs : List Src) (es : List Ed) (w : World) (e : Ending) (w' : World) : Prop :=
  ∃ a c, e = .returned (.tuple #[.slice a (changeF fs es).1.length c, .int .i64 (changeF fs es).2]) ∧ FAt w' a (changeF fs es).1 ∧ Below w.heap.size w w'

theorem change_nil {fs : List Src} {es : List Ed} {w w' : World} {err : Int} (h : changeF fs es = ([], err)) (hb : Below w.heap.size w w') : ChangePost fs es w (.returned (.tuple #[.slice none 0 0, .int .i64 err])) w' := by
  refine ⟨none, 0, by rw [h]; rfl, ?_, hb⟩
  rw [h]; exact .inl rfl

set_option maxRecDepth 100000 in
set_option maxHeartbeats 1000000 in
theorem Change_wrong (a a2 : Option Addr) (cap cap2 : Nat) (fs : List Src) (es : List Ed) (w : World) (hm : Mx w) (hF : FAt w a fs) (hn : fs.length ≤ maxLen)
    (hz : ∀ x ∈ fs, x.1.size ≤ maxLen ∧ x.2.size ≤ maxLen) (hw : (wrongF fs).1 ≠ 0) :
    Calls Tryd.prog 17 #[.slice a fs.length cap, .slice a2 es.length cap2] w (ChangePost fs es w) := by
  have hwr := Wrong_any a cap fs w hm hF hz hn
  have HE : Hid (changeF fs es = ([], (wrongF fs).1)) := by show _ = _; simp [changeF, hw]
  generalize (wrongF fs).1 = e1 at hwr HE hw
  generalize (wrongF fs).2 = e2 at hwr
  have hd : (e1 != 0) = true := by simpa using hw
  have HW := hid hwr
  clear hwr hw hm hF hz hn
  go_enter Tryd.func17, Tryd.ntmps17
  go_wp2_with fail
  refine HW.out.mono ?_
  rintro e w1 ⟨rfl, hb1⟩
  have HB := hid (hb1.alloc hb1.size (.cells #[.int .i64 e1, .int .i64 e2, .int .i64 0] 28))
  clear HW hb1
  go_wp2_with fail
  go_quiet (fail)
  go_wp2
  go_ret2
  exact change_nil HE.out (below_drewN HB.out _)

set_option maxRecDepth 100000 in
set_option maxHeartbeats 1000000 in
theorem Change_misfit (a a2 : Option Addr) (cap cap2 : Nat) (fs : List Src) (es : List Ed) (w : World) (hm : Mx w) (hF : FAt w a fs) (hE : EAt w a2 es) (hn : fs.length ≤ maxLen) (hn2 : es.length * 40 ≤ 140737488355328)
    (hz : ∀ x ∈ fs, x.1.size ≤ maxLen ∧ x.2.size ≤ maxLen) (hw : (wrongF fs).1 = 0) (hf : misfitFrom fs none (sortE es) ≠ 0) :
    Calls Tryd.prog 17 #[.slice a fs.length cap, .slice a2 es.length cap2] w (ChangePost fs es w) := by
  have hwr := Wrong_any a cap fs w hm hF hz hn
  have HE : Hid (changeF fs es = ([], misfitFrom fs none (sortE es))) := by show _ = _; simp [changeF, hw, hf]
  rw [hw] at hwr
  generalize (wrongF fs).2 = e2 at hwr
  have HW := hid hwr
  have HO := hid (fun W (h : Below w.heap.size w W) => inOrder_any a2 cap2 es W (hE.below h) hn2)
  have HM := hid (fun a' c' W (h : Below w.heap.size w W) (hE' : EAt W a' (sortE es)) => misfit_any a a' cap c' fs (sortE es) W (hF.below h) hE' hn (by rw [sortE_length]; unfold maxLen; omega) (fun x hx => (hz x hx).2))
  rw [sortE_length] at HM
  generalize misfitFrom fs none (sortE es) = mf at HM HE hf
  have hd : (mf != 0) = true := by simpa using hf
  clear hwr hw hm hF hz hn hf hE hn2
  go_enter Tryd.func17, Tryd.ntmps17
  go_wp2_with fail
  refine HW.out.mono ?_
  rintro e w1 ⟨rfl, hb1⟩
  have HB := hid (hb1.alloc hb1.size (.cells #[.int .i64 0, .int .i64 e2, .int .i64 0] 28))
  clear HW hb1
  go_wp2_with fail
  refine (HO.out _ HB.out).mono ?_
  rintro e w2 ⟨a', c', rfl, hb2, hst, hnc, hcm, hE2⟩
  have HB2 := hid (HB.out.trans (hb2.mono HB.out.size))
  have HE2 := hid hE2
  clear hb2 hE2 hst hnc hcm HO
  go_wp2_with fail
  refine (HM.out a' c' _ HB2.out HE2.out).mono ?_
  rintro e w3 ⟨rfl, hb3⟩
  have HB3 := hid (HB2.out.trans (hb3.mono HB2.out.size))
  clear hb3 HM HE2
  go_wp2_with fail
  go_ret2
  exact change_nil HE.out HB3.out

theorem changeGo_cons (k : Nat) (x : Src) (r : List Src) (es : List Ed) : changeGo k (x :: r) es = if fitsB x.2 (mine k es) then (changeGo (k + 1) r (others k es)).map ((x.1, doneB x.2 (mine k es)) :: ·) else none := rfl

/-- What holds at a round's head: B is the block that holds the edits that are left. -/
structure RoundAt (fs : List Src) (s : List Ed) (k : Nat) (v : Value) (w3 wr : World) (rest : List Ed) (outs : List Src) (a2 : Option Addr) (c2 : Nat) (prev : Option Ed) : Prop where
  old : Below w3.heap.size w3 wr
  box : wr.heap[w3.heap.size]? = some (.cells #[.slice a2 rest.length c2] 24 (0, 0))
  std : Std a2
  cap : rest.length ≤ c2
  big : c2 ≤ maxLen
  left : EAt w3 a2 rest
  own : wr.ownsRow (w3.heap.size + 1) 33 2 v k (cellsF outs)
  len : outs.length = k
  go : changeGo 0 fs s = (changeGo k (fs.drop k) rest).map (outs ++ ·)
  fit : misfitFrom fs prev rest = 0
  last : ∀ p, prev = some p → p.file < k
  all : ∀ e ∈ rest, e.text.size ≤ 140737488355328

/-- Behind a file's edits: what was owned is owned still, the edits that are left are the others. -/
theorem RoundAt.after {fs : List Src} {s : List Ed} {k : Nat} {v : Value} {w3 wr w5 w6 : World} {rest : List Ed} {outs : List Src} {a3 a5 : Option Addr} {c3 c6 : Nat} {prev : Option Ed} {X : Obj} {n : Nat} (h : RoundAt fs s k v w3 wr rest outs a3 c3 prev)
    (hbox5 : w5.heap[w3.heap.size]? = some (.cells #[.slice a5 (others k rest).length c6] 24 (0, 0))) (hoth5 : ∀ j, j ≠ w3.heap.size → w5.heap[j]? = (wr.alloc X).heap[j]?) (hsz5 : w5.heap.size = (wr.alloc X).heap.size)
    (hb5 : Below w3.heap.size ((wr.alloc X).drewN n) w5) (hb6 : Below w5.heap.size w5 w6) :
    Below w3.heap.size w3 w6 ∧ w6.heap[w3.heap.size]? = some (.cells #[.slice a5 (others k rest).length c6] 24 (0, 0)) ∧ w6.ownsRow (w3.heap.size + 1) 33 2 v k (cellsF outs) ∧ w6.heap[wr.heap.size]? = some X := by
  have hbw : w3.heap.size < wr.heap.size := (Array.getElem?_eq_some_iff.1 h.box).1
  have hsz : w5.heap.size = wr.heap.size + 1 := by rw [hsz5]; simp
  have hw1 : Below w3.heap.size w3 ((wr.alloc X).drewN n) := below_drewN (h.old.alloc h.old.size X) n
  have hw5 : Below w3.heap.size w3 w5 := hw1.trans hb5
  have hw6 : Below w3.heap.size w3 w6 := hw5.trans (hb6.mono (by omega))
  refine ⟨hw6, (hb6.block _ (by omega)).trans hbox5, ?_, ?_⟩
  · have hg : wr.grownBy w6 (some w3.heap.size) := by
      refine ⟨hw6.os.trans h.old.os.symm, hw6.tape.trans h.old.tape.symm, hw6.output.trans h.old.output.symm, by have := hb6.size; omega, fun j hj hne => ?_⟩
      rw [hb6.block j (by omega), hoth5 j (fun e => hne (by rw [e])), Below.heap_alloc wr X j hj]
    exact h.own.kept hg (.inr (fun e => by have := (h.own.lt _ e).1; omega))
  · rw [hb6.block _ (by omega), hoth5 _ (by omega)]; exact World.alloc_heap_new wr X

theorem RoundAt.next {fs : List Src} {s : List Ed} {k : Nat} {v v' : Value} {w3 wr w6 w7 : World} {rest : List Ed} {outs : List Src} {a3 a5 : Option Addr} {c3 c6 : Nat} {prev prev' : Option Ed} {X : Obj} {px tx : ByteArray} (h : RoundAt fs s k v w3 wr rest outs a3 c3 prev)
    (h6 : Below w3.heap.size w3 w6) (hbox6 : w6.heap[w3.heap.size]? = some (.cells #[.slice a5 (others k rest).length c6] 24 (0, 0))) (hst : Std a5) (hcap : (others k rest).length ≤ c6) (hbig : c6 ≤ maxLen) (hE : EAt w3 a5 (others k rest))
    (hown6 : w6.ownsRow (w3.heap.size + 1) 33 2 v k (cellsF outs)) (hg : (w6.alloc X).grownBy w7 v.ownBlock) (hown : w7.ownsRow (w3.heap.size + 1) 33 2 v' (k + 1) (cellsF outs ++ encS (px, tx)))
    (hgo : changeGo 0 fs s = (changeGo (k + 1) (fs.drop (k + 1)) (others k rest)).map (fun l => outs ++ (px, tx) :: l)) (hfit : misfitFrom fs prev' (others k rest) = 0) (hlast : ∀ p, prev' = some p → p.file ≤ (k : Int)) :
    RoundAt fs s (k + 1) v' w3 w7 (others k rest) (outs ++ [(px, tx)]) a5 c6 prev' := by
  have hb6 : w3.heap.size < w6.heap.size := (Array.getElem?_eq_some_iff.1 hbox6).1
  have hrow : ∀ j, v.ownBlock = some j → w3.heap.size + 1 ≤ j := fun j e => (hown6.lt j e).1
  refine ⟨(h6.alloc h6.size X).grown hg (by simp; omega) (fun j e => by have := hrow j e; omega), ?_, hst, hcap, hbig, hE, by rw [cellsF_snoc]; exact hown, by simp [h.len], ?_, hfit, fun p hp => by have := hlast p hp; push_cast; omega, ?_⟩
  · exact (hg.block _ (by simp; omega) (fun e => by have := hrow _ e.symm; omega)).trans ((Below.heap_alloc w6 X _ hb6).trans hbox6)
  · rw [hgo]; congr 1; funext l; simp
  · exact fun e he => h.all e ((List.dropWhile_sublist _).subset he)

theorem two_new (w : World) (u v : Value) (T : TypeId) : ∀ j x, [u, v][j]? = some x → (w.alloc (.cells #[u, v] T)).cell? ((⟨w.heap.size, 0, none⟩ : Addr).add j) = some x := by
  intro j x hx
  rw [Addr.add_lit, Nat.zero_add, World.cell?_alloc_mark]
  match j, hx with
  | 0, hx => simpa using hx
  | 1, hx => simpa using hx
  | j + 2, hx => simp at hx
theorem two_one (a b : ByteArray) : ∀ u ∈ [Value.string a, Value.string b], u.oneCell' = true := by
  intro u hu
  simp at hu
  rcases hu with rfl | rfl <;> rfl
theorem row_slice {w : World} {base : Nat} {e : TypeId} {size : Nat} {v : Value} {n : Nat} {xs : List Value} (h : w.ownsRow base e size v n xs) : ∃ a m c, v = .slice a m c := by
  rcases h.2 with ⟨rfl, _⟩ | ⟨g, cap, cur, rfl, _⟩
  · exact ⟨_, _, _, rfl⟩
  · exact ⟨_, _, _, rfl⟩

/-- The next file's edits, in a world that has only grown. -/
def NextPost2 (f : Int) (B : Nat) (a : Option Addr) (es : List Ed) (w3 w : World) (e : Ending) (w' : World) : Prop :=
  ∃ a2 c1 c2, e = .returned (.slice a (mine f es).length c1) ∧ w'.heap[B]? = some (.cells #[.slice a2 (others f es).length c2] 24 (0, 0)) ∧ (∀ j, j ≠ B → w'.heap[j]? = w.heap[j]?) ∧ w'.heap.size = w.heap.size ∧ Below B w w' ∧
    Std a2 ∧ (others f es).length ≤ c2 ∧ c2 ≤ maxLen ∧ EAt w3 a (mine f es) ∧ EAt w3 a2 (others f es)

theorem next_later (f : Int) (a : Option Addr) (c : Nat) (es : List Ed) (w3 w : World) (hb : Below w3.heap.size w3 w) (hbox : w.heap[w3.heap.size]? = some (.cells #[.slice a es.length c] 24 (0, 0))) (hE : EAt w3 a es) (hS : Std a) (hnc : es.length ≤ c) (hcm : c ≤ maxLen) :
    Calls Tryd.prog 49 #[.int .i64 f, .pointer (some ⟨w3.heap.size, 0, none⟩)] w (NextPost2 f w3.heap.size a es w3 w) := by
  refine (byFile_next f w3.heap.size a c es w (by rw [Go.Joins.cell_of_block hbox]; rfl) (by simp [World.frozen?, hbox]) (hE.below hb) hS hnc hcm).mono ?_
  rintro e w' ⟨a2, c1, c2, rfl, rfl, h1, h2, h3, h4, h5⟩
  refine ⟨a2, c1, c2, rfl, by have := Go.Joins.block_setCell (i := 0) hbox (.slice a2 (others f es).length c2); simpa using this, fun j hj => Below.heap_setCell _ _ _ j hj, by simp, (Below.refl _ w).setCell (p := ⟨w3.heap.size, 0, none⟩) (Nat.le_refl _) _, h1, h2, h3, ?_, ?_⟩
  · rw [(mine_eq f es).1]; exact hE.take _
  · -- the others' cells lie among the elder ones
    by_cases h0 : others f es = []
    · exact .inl h0
    · rcases h5 with h | ⟨b, off, rfl, rfl⟩
      · exact absurd h h0
      · rw [(mine_eq f es).2]; exact hE.drop _

theorem wrongFrom_small : ∀ (fs : List Src) (prev : Option ByteArray) (i : Nat), (wrongFrom prev i fs).1 = 0 → ∀ x ∈ fs, x.2.size ≤ 3000
  | [], _, _, _, x, hx => by cases hx
  | y :: r, prev, i, h, x, hx => by
    unfold wrongFrom at h
    split at h
    · cases h
    · split at h
      · cases h
      · rcases List.mem_cons.1 hx with rfl | hx
        · omega
        · split at h
          · split at h
            · cases h
            · exact wrongFrom_small r _ _ h x hx
          · exact wrongFrom_small r _ _ (by simpa using h) x hx
theorem wrong_texts {fs : List Src} (h : (wrongF fs).1 = 0) : ∀ x ∈ fs, x.2.size ≤ 3000 := by
  unfold wrongF at h
  split at h
  · cases h
  · exact wrongFrom_small fs _ _ h

theorem total_le (M : Nat) : ∀ (l : List Ed), (∀ e ∈ l, e.text.size ≤ M) → total l ≤ l.length * M
  | [], _ => by simp [total]
  | e :: r, h => by
    have h1 := h e (by simp)
    have h2 := total_le M r (fun x hx => h x (by simp [hx]))
    have h3 : total (e :: r) = e.text.size + total r := by simp [total]
    rw [h3, List.length_cons, Nat.add_mul]
    omega

/-- Of edits that fit, those of one file are at most one more than its text has bytes: they begin at different places. -/
theorem fit_count (fs : List Src) (k : Int) : ∀ (es : List Ed) (prev : Option Ed) (m : Int), misfitFrom fs prev es = 0 → (∀ p, prev = some p → p.file = k → m = p.lo ∧ p.lo ≤ p.hi) →
    (m = -1 ∨ ∃ p, prev = some p ∧ p.file = k) → m ≤ (textOf fs k).size → ((mine k es).length : Int) ≤ (textOf fs k).size - m
  | [], _, m, _, _, _, hm => by simp [mine]; omega
  | e :: r, prev, m, h, hp, hm0, hm => by
    unfold mine
    rw [List.takeWhile_cons]
    by_cases hf : e.file = k
    · have hof : ofFile k e = true := by simp [ofFile, hf]
      rw [hof]
      simp only [if_true]
      obtain ⟨h1, h2, h3, h4⟩ := misfit_cons h
      rw [hf] at h2
      have hlo : m + 1 ≤ e.lo := by
        rcases hm0 with h0 | ⟨p, hpe, hpf⟩
        · omega
        · have h5 := h3 p hpe
          obtain ⟨hq1, hq2⟩ := hp p hpe hpf
          simp only [clashB, hpf, hf, beq_self_eq_true, Bool.true_and, Bool.or_eq_false_iff, decide_eq_false_iff_not, beq_eq_false_iff_ne] at h5
          omega
      have ih := fit_count fs k r (some e) e.lo h4 (fun p hp' _ => by cases hp'; exact ⟨rfl, by omega⟩) (.inr ⟨e, rfl, hf⟩) (by omega)
      unfold mine at ih
      rw [List.length_cons]
      omega
    · have hof : ofFile k e = false := by simp [ofFile, hf]
      rw [hof]
      simp
      omega

set_option maxRecDepth 100000 in
set_option maxHeartbeats 2000000 in
theorem Change_main (a a2 : Option Addr) (cap cap2 : Nat) (fs : List Src) (es : List Ed) (w : World) (hm : Mx w) (hF : FAt w a fs) (hE : EAt w a2 es) (hn : fs.length ≤ 8) (hn2 : es.length * 40 ≤ 140737488355328)
    (hz : ∀ x ∈ fs, x.1.size ≤ maxLen ∧ x.2.size ≤ maxLen) (hU : ∀ e ∈ es, e.text.size ≤ 140737488355328) (hw : (wrongF fs).1 = 0) (hf : misfitFrom fs none (sortE es) = 0) :
    Calls Tryd.prog 17 #[.slice a fs.length cap, .slice a2 es.length cap2] w (ChangePost fs es w) := by
  have hnm : fs.length ≤ maxLen := by unfold maxLen; omega
  have hwr := Wrong_any a cap fs w hm hF hz hnm
  rw [hw] at hwr
  generalize (wrongF fs).2 = e2 at hwr
  have HW := hid hwr
  have HO := hid (fun W (h : Below w.heap.size w W) => inOrder_any a2 cap2 es W (hE.below h) hn2)
  have HM := hid (fun a' c' W (h : Below w.heap.size w W) (hE' : EAt W a' (sortE es)) => misfit_any a a' cap c' fs (sortE es) W (hF.below h) hE' hnm (by rw [sortE_length]; unfold maxLen; omega) (fun x hx => (hz x hx).2))
  rw [sortE_length, hf] at HM
  clear hwr hm hz hE hnm
  obtain ⟨i0, hi, hz0, hz1, hz2⟩ := info_parts info_source
  go_enter Tryd.func17, Tryd.ntmps17
  go_wp2_with fail
  refine HW.out.mono ?_
  rintro e w1 ⟨rfl, hb1⟩
  have HB := hid (hb1.alloc hb1.size (.cells #[.int .i64 0, .int .i64 e2, .int .i64 0] 28))
  clear HW hb1
  go_wp2_with fail
  refine (HO.out _ HB.out).mono ?_
  rintro e w2 ⟨a', c', rfl, hb2, hst, hnc, hcm, hE2⟩
  have HB2 := hid (HB.out.trans (hb2.mono HB.out.size))
  have HE2 := hid hE2
  clear hb2 hE2 HO
  go_wp2_with fail
  refine (HM.out a' c' _ HB2.out HE2.out).mono ?_
  rintro e w3 ⟨rfl, hb3⟩
  have HB3 := hid (HB2.out.trans (hb3.mono HB2.out.size))
  have HE3 := hid (HE2.out.below hb3)
  have HF3 := hid (hF.below HB3.out)
  clear hb3 HM HE2 HB HB2
  go_wp2_with (first | (at_make; refine wpList_make_own _ rfl _ _ 23 rfl (w3.heap.size + 1) 33 i0 _ 2 Tryd.underlying23 hi hz0 hz1 _ _ _ fs.length rfl rfl rfl ?b2 ?b3 ?b4 ?_) | go_in)
  case b2 => rw [hz2]; omega
  case b3 => unfold maxLen; omega
  case b4 => simp
  intro w4 hown4 hg4
  go_wp2
  have hbox4 : w4.heap[w3.heap.size]? = some (.cells #[.slice a' (sortE es).length c'] 24 (0, 0)) := by
    rw [sortE_length]
    exact (hg4.block w3.heap.size (by simp) (by simp)).trans (World.alloc_heap_new w3 _)
  have hb4 : Below w3.heap.size w3 w4 := ((Below.refl _ w3).alloc (Nat.le_refl _) _).grown hg4 (by simp) (fun k e => by cases e)
  have hst0 : RoundAt fs (sortE es) 0 (.slice (some ⟨w3.heap.size + 1, 0, none⟩) 0 fs.length) w3 w4 (sortE es) [] a' c' none :=
    ⟨hb4, hbox4, hst, by rw [sortE_length]; exact hnc, hcm, HE3.out, hown4, rfl, by simp, hf, fun p hp => (by cases hp), fun e he => hU e ((sortE_perm es).mem_iff.1 he)⟩
  have HS0 := hid hst0
  have HSum : Hid (∀ x ∈ fs, x.2.size ≤ 3000) := wrong_texts hw
  clear hst0 hbox4 hb4 hown4 hg4 hst hnc hcm HE3 hU hn2
  go_loopw [10, 11, 12, 13, 14, 37] (fun v _ _ _ _ i wr => ∃ k : Nat, k ≤ fs.length ∧ i = .int .i64 k ∧ Hid (∃ rest outs a2 c2 prev, RoundAt fs (sortE es) k v w3 wr rest outs a2 c2 prev)) (fun _ _ _ _ _ i _ => fs.length - (intOf i).toNat)
  case atStart => exact ⟨0, Nat.zero_le _, rfl, _, _, _, _, _, HS0.out⟩
  case round =>
    clear HS0
    obtain ⟨k, hk, rfl, H⟩ := hrel
    obtain ⟨rest, outs, a3, c3, prev, hR⟩ := H.out
    clear H
    by_cases hlt : k < fs.length
    · have hgx : fs[k]? = some fs[k] := List.getElem?_eq_getElem hlt
      rcases id HF3.out with h0 | ⟨b, off, rfl, hb, hc⟩
      · rw [h0] at hlt; simp at hlt
      obtain ⟨c0, c1⟩ := hc k fs[k] hgx
      rw [← hR.old.cell (p := ⟨b, _, none⟩) hb] at c0 c1
      have hsm := HSum.out fs[k] (List.getElem_mem hlt)
      have HTx : Hid (textOf fs (k : Int) = fs[k].2) := by show _ = _; simp [textOf, hlt]
      have HD : Hid (fs.drop k = fs[k] :: fs.drop (k + 1)) := List.drop_eq_getElem_cons hlt
      generalize fs[k] = x at c0 c1 hsm HTx HD
      obtain ⟨px, tx⟩ := x
      dsimp only at c0 c1 hsm HTx
      have hch : Chain tx.size 0 (mine k rest) := by
        have := fit_mine fs k rest prev 0 hR.fit (by omega) (fun p hp hpf => by have := hR.last p hp; omega) (.inl (Int.le_refl _))
        rw [HTx.out] at this; exact this
      have hbd : tx.size + total (mine k rest) ≤ 1000000000000000000 := by
        have h1 := fit_count fs k rest prev (-1) hR.fit (fun p hp hpf => by have := hR.last p hp; omega) (.inl rfl) (by omega)
        rw [HTx.out] at h1
        have h2 := total_le 140737488355328 (mine k rest) (fun e he => hR.all e ((List.takeWhile_sublist _).subset he))
        have h3 : (mine k rest).length * 140737488355328 ≤ 3001 * 140737488355328 := Nat.mul_le_mul_right _ (by omega)
        omega
      obtain ⟨prev', hfit', hlast'⟩ := fit_others fs k rest prev hR.fit (fun p hp => by have := hR.last p hp; omega)
      have hml := mine_length k rest
      have HGo : Hid (changeGo 0 fs (sortE es) = if fitsB tx (mine k rest) then (changeGo (k + 1) (fs.drop (k + 1)) (others k rest)).map (fun l => outs ++ (px, doneB tx (mine k rest)) :: l) else none) := by
        show _ = _
        rw [hR.go, HD.out, changeGo_cons]
        split
        · rw [Option.map_map]; rfl
        · rfl
      have hbw : w3.heap.size < wr.heap.size := (Array.getElem?_eq_some_iff.1 hR.box).1
      have HBw1 := hid (hR.old.alloc hR.old.size (.cells #[.string px, .string tx] 33))
      have HNx := hid (fun W (hb : Below w3.heap.size w3 W) (hbox : W.heap[w3.heap.size]? = some (.cells #[.slice a3 rest.length c3] 24 (0, 0))) => next_later k a3 c3 rest w3 W hb hbox hR.left hR.std hR.cap hR.big)
      have HRw := hid (fun W c1 (hb : Below w3.heap.size w3 W) (hE : EAt w3 a3 (mine k rest)) => rewrite_any tx a3 c1 (mine k rest) W (hE.below hb) hch hbd (by omega) (by have h1 := hR.cap; have h2 := hR.big; omega))
      have HR := hid hR
      have hne : w3.heap.size ≠ wr.heap.size := by omega
      clear hgx hc hch hsm hR hbd
      go_wp2_with fail
      have eg : ∀ args w, (callFunc 49 args).run Tryd.prog w = .ok (.enter 49 args) w := enters_of Tryd.func49 (by kernel_rfl) rfl
      go_region_with (first
        | (go_at_call 49; refine (HNx.out _ ?_ ?_).mono ?_; exact HBw1.out.drew; exact (Below.heap_alloc wr _ _ hbw).trans HR.out.box; rintro e w5 ⟨a5, c5, c6, rfl, hbox5, hoth5, hsz5, hb5, hst5, hcap5, hbig5, hE5, hE6⟩; have ct5 : w5.cell? ⟨wr.heap.size, 1, none⟩ = some (.string tx) := (World.cell?_of_block (w := wr.alloc (.cells #[.string px, .string tx] 33)) (hoth5 wr.heap.size (by omega))).trans (by rw [World.cell?_alloc_mark]; rfl))
        | (go_at_call 36; refine (HRw.out _ _ ?_ ?_).mono ?_; exact HBw1.out.drew.trans hb5; exact hE5; rintro e w6 ⟨rfl, hb6⟩))
      all_goals
        obtain ⟨h6, hbox6, hown6, hx6⟩ := HR.out.after (n := 1) hbox5 hoth5 hsz5 hb5 hb6
        have c6p : w6.cell? ⟨wr.heap.size, 0, none⟩ = some (.string px) := by rw [Go.Joins.cell_of_block hx6]; rfl
        have HB6 := hid (HB3.out.trans (h6.mono HB3.out.size))
        cases hfit : fitsB tx (mine k rest) with
        | false =>
          have HE : Hid (changeF fs es = ([], 4)) := by
            have := HGo.out
            rw [hfit] at this
            show _ = _
            simp only [changeF, hw, hf]
            rw [this]; rfl
          clear HGo
          go_wp2
          go_ret2
          exact change_nil HE.out HB6.out
        | true =>
          have HGo' : Hid (changeGo 0 fs (sortE es) = (changeGo (k + 1) (fs.drop (k + 1)) (others k rest)).map (fun l => outs ++ (px, doneB tx (mine k rest)) :: l)) := by
            show _ = _; rw [HGo.out, hfit]; rfl
          have hlr : w3.heap.size + 1 ≤ w6.heap.size := (Array.getElem?_eq_some_iff.1 hbox6).1
          generalize doneB tx (mine k rest) = D at HGo' ⊢
          clear HGo HNx HRw
          go_wp2_with (at_builtin; refine wpList_append_own _ rfl _ _ 23 rfl (w3.heap.size + 1) 33 i0 _ 2 32 Tryd.underlying23 hi hz0 hz1 hz2 rfl (by decide) _ _ _ rfl (hown6.alloc _) ⟨w6.heap.size, 0, none⟩ 1 1 [.string px, .string D] rfl rfl (two_new w6 _ _ _) (two_one px D) (by unfold maxLen; omega) (by omega) (by simp; omega) ?_)
          intro v' w7 hown7 hg7 _
          have HN := hid (HR.out.next h6 hbox6 hst5 hcap5 hbig5 hE6 hown6 hg7 hown7 HGo'.out hfit' hlast')
          obtain ⟨av, nv, cv, rfl⟩ := row_slice hown7
          clear hown7 hg7 HGo' hown6
          go_wp2
          go_roundw
          case rel => exact ⟨k + 1, by omega, by go_num, _, _, _, _, _, HN.out⟩
          case measure => simp [intOf]; omega
    · have hke : k = fs.length := by omega
      have HE : Hid (changeF fs es = (outs, 0)) := by
        have h1 := hR.go
        have h2 : fs.drop k = [] := List.drop_eq_nil_of_le (by omega)
        rw [h2] at h1
        show _ = _
        simp only [changeF, hw, hf]
        rw [h1]; simp [changeGo]
      have hown := hR.own
      rw [← hR.len] at hown
      obtain ⟨av, cv, rfl, hFA⟩ := FAt.of_row hown
      have HFA := hid hFA
      have HB6 := hid (HB3.out.trans (hR.old.mono HB3.out.size))
      clear hR hown hFA
      go_wp2
      go_ret2
      exact ⟨av, cv, by rw [HE.out]; rfl, by rw [HE.out]; exact HFA.out, HB6.out⟩

theorem wrong_few {fs : List Src} (h : (wrongF fs).1 = 0) : fs.length ≤ 8 := by
  unfold wrongF at h
  split at h
  · cases h
  · omega

/-- Change, at whatever files and edits. -/
theorem Change_any (a a2 : Option Addr) (cap cap2 : Nat) (fs : List Src) (es : List Ed) (w : World) (hm : Mx w) (hF : FAt w a fs) (hE : EAt w a2 es) (hn : fs.length ≤ maxLen) (hn2 : es.length * 40 ≤ 140737488355328)
    (hz : ∀ x ∈ fs, x.1.size ≤ maxLen ∧ x.2.size ≤ maxLen) (hU : ∀ e ∈ es, e.text.size ≤ 140737488355328) :
    Calls Tryd.prog 17 #[.slice a fs.length cap, .slice a2 es.length cap2] w (ChangePost fs es w) := by
  by_cases hw : (wrongF fs).1 = 0
  · by_cases hf : misfitFrom fs none (sortE es) = 0
    · exact Change_main a a2 cap cap2 fs es w hm hF hE (wrong_few hw) hn2 hz hU hw hf
    · exact Change_misfit a a2 cap cap2 fs es w hm hF hE hn hn2 hz hw hf
  · exact Change_wrong a a2 cap cap2 fs es w hm hF hn hz hw

end Go.Proofs.YthklodlhbafehaaDoor
