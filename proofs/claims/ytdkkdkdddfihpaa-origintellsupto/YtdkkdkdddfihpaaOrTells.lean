/- The statement OriginTells: at all files, tokens and numbers it returns true. -/
import Derived.Test.YtdkkdkdddfihpaaOrG
import Derived.Maps.AppendAt
namespace Go.Proofs.Ytdkkdkdddfihpaa
open Go.RowKit Go.Shelf

/-- At a round's head: two rows of the call's own hold the numbers that were met. -/
structure LawSt (w : World) (p : Ov → Bool) (ts : List Ov) (i j : Nat) (v9 v10 : Value) (wr : World) : Prop where
  old : Below w.heap.size w wr
  own9 : wr.ownsRow w.heap.size 3 1 v9 (numsTo p ts i).length (cellsI (numsTo p ts i))
  own10 : wr.ownsRow w.heap.size 3 1 v10 (numsTo herePd ts j).length (cellsI (numsTo herePd ts j))
  apart : v9.ownBlock = none ∨ v9.ownBlock ≠ v10.ownBlock
theorem LawSt.below {w : World} {p : Ov → Bool} {ts : List Ov} {i j : Nat} {v9 v10 : Value} {wr wr' : World} (h : LawSt w p ts i j v9 v10 wr) (hb : Below wr.heap.size wr wr') : LawSt w p ts i j v9 v10 wr' :=
  ⟨h.old.trans (hb.mono h.old.size), own_same h.own9 hb, own_same h.own10 hb, h.apart⟩
theorem LawSt.skip9 {w : World} {p : Ov → Bool} {ts : List Ov} {i j : Nat} {v9 v10 : Value} {wr : World} (h : LawSt w p ts i j v9 v10 wr) (t : Ov) (ht : ts[i]? = some t) (hp : p t = false) : LawSt w p ts (i + 1) j v9 v10 wr := by
  have e : numsTo p ts (i + 1) = numsTo p ts i := by rw [numsTo_some p ts i t ht, hp]; simp
  exact ⟨h.old, by rw [e]; exact h.own9, h.own10, h.apart⟩
theorem LawSt.skip10 {w : World} {p : Ov → Bool} {ts : List Ov} {i j : Nat} {v9 v10 : Value} {wr : World} (h : LawSt w p ts i j v9 v10 wr) (t : Ov) (ht : ts[j]? = some t) (hp : herePd t = false) : LawSt w p ts i (j + 1) v9 v10 wr := by
  have e : numsTo herePd ts (j + 1) = numsTo herePd ts j := by rw [numsTo_some herePd ts j t ht, hp]; simp
  exact ⟨h.old, h.own9, by rw [e]; exact h.own10, h.apart⟩
theorem LawSt.next9 {w : World} {p : Ov → Bool} {ts : List Ov} {i j : Nat} {v9 v10 v' : Value} {wr w2 : World} {X : Obj} (h : LawSt w p ts i j v9 v10 wr) (t : Ov) (ht : ts[i]? = some t) (hp : p t = true)
    (hown : w2.ownsRow w.heap.size 3 1 v' ((numsTo p ts i).length + 1) (cellsI (numsTo p ts i) ++ [.int .i64 (i : Int)])) (hg : (wr.alloc X).grownBy w2 v9.ownBlock) (hv : v'.ownBlock = v9.ownBlock ∨ v'.ownBlock = some (wr.heap.size + 1)) : LawSt w p ts (i + 1) j v' v10 w2 := by
  have e : numsTo p ts (i + 1) = numsTo p ts i ++ [i] := by rw [numsTo_some p ts i t ht, hp]; simp
  have hap : v10.ownBlock = none ∨ v10.ownBlock ≠ v9.ownBlock := by
    rcases h.apart with h1 | h1
    · rw [h1]
      cases v10.ownBlock with
      | none => exact .inl rfl
      | some g => exact .inr (by simp)
    · exact .inr (Ne.symm h1)
  refine ⟨(h.old.alloc h.old.size X).grown hg (by have := h.old.size; simp; omega) (fun j e => (h.own9.lt j e).1), ?_, (h.own10.alloc X).kept hg hap, ?_⟩
  · rw [e, List.length_append, cellsI, List.map_append]
    exact hown
  · rcases hv with hv | hv
    · rw [hv]; exact h.apart
    · refine .inr fun h2 => ?_
      rw [hv] at h2
      have h3 := (h.own10.lt _ h2.symm).2
      omega
theorem LawSt.next10 {w : World} {p : Ov → Bool} {ts : List Ov} {i j : Nat} {v9 v10 v' : Value} {wr w2 : World} {X : Obj} (h : LawSt w p ts i j v9 v10 wr) (t : Ov) (ht : ts[j]? = some t) (hp : herePd t = true)
    (hown : w2.ownsRow w.heap.size 3 1 v' ((numsTo herePd ts j).length + 1) (cellsI (numsTo herePd ts j) ++ [.int .i64 (j : Int)])) (hg : (wr.alloc X).grownBy w2 v10.ownBlock) (hv : v'.ownBlock = v10.ownBlock ∨ v'.ownBlock = some (wr.heap.size + 1)) : LawSt w p ts i (j + 1) v9 v' w2 := by
  have e : numsTo herePd ts (j + 1) = numsTo herePd ts j ++ [j] := by rw [numsTo_some herePd ts j t ht, hp]; simp
  refine ⟨(h.old.alloc h.old.size X).grown hg (by have := h.old.size; simp; omega) (fun j e => (h.own10.lt j e).1), (h.own9.alloc X).kept hg h.apart, ?_, ?_⟩
  · rw [e, List.length_append, cellsI, List.map_append]
    exact hown
  · rcases hv with hv | hv
    · rw [hv]; exact h.apart
    · cases h9 : v9.ownBlock with
      | none => exact .inl rfl
      | some g =>
        refine .inr fun h2 => ?_
        rw [hv] at h2
        have := (h.own9.lt g h9).2
        simp at h2 this
        omega

/-- A token in a block of its own. -/
def BoxAt (w : World) (B : Nat) (t : Ov) : Prop := B < w.heap.size ∧ ∀ (i : Nat) v, (encO t)[i]? = some v → w.cell? ⟨B, i, none⟩ = some v
theorem BoxAt.below {w w' : World} {B : Nat} {t : Ov} (h : BoxAt w B t) (hb : Below w.heap.size w w') : BoxAt w' B t :=
  ⟨Nat.lt_of_lt_of_le h.1 hb.size, fun i v hv => (hb.cell (p := ⟨B, i, none⟩) h.1).trans (h.2 i v hv)⟩
theorem BoxAt.new (w : World) (t : Ov) : BoxAt (w.alloc (boxO t)) w.heap.size t :=
  ⟨by simp, fun i v hv => by rw [World.cell?_alloc_mark]; simpa [encO] using hv⟩
theorem BoxAt.cells {w : World} {B : Nat} {t : Ov} (h : BoxAt w B t) : w.cell? ⟨B, 0, none⟩ = some (.int .i64 t.kind) ∧ w.cell? ⟨B, 1, none⟩ = some (.string t.text) ∧ w.cell? ⟨B, 2, none⟩ = some (.bool t.space) ∧ w.cell? ⟨B, 3, none⟩ = some (.bool t.first) ∧
    w.cell? ⟨B, 4, none⟩ = some (.int .i64 t.file) ∧ w.cell? ⟨B, 5, none⟩ = some (.int .i64 t.lo) ∧ w.cell? ⟨B, 6, none⟩ = some (.int .i64 t.hi) ∧ w.cell? ⟨B, 7, none⟩ = some (.int .i64 t.line) ∧ w.cell? ⟨B, 8, none⟩ = some (.slice t.ha t.hn t.hc) ∧
    w.cell? ⟨B, 9, none⟩ = some (.slice t.ca t.calls.length t.cc) ∧ w.cell? ⟨B, 10, none⟩ = some (.int .i64 t.made) :=
  ⟨h.2 0 _ rfl, h.2 1 _ rfl, h.2 2 _ rfl, h.2 3 _ rfl, h.2 4 _ rfl, h.2 5 _ rfl, h.2 6 _ rfl, h.2 7 _ rfl, h.2 8 _ rfl, h.2 9 _ rfl, h.2 10 _ rfl⟩

theorem atPd_true (fl lo : Int) (t : Ov) : atPd fl lo t = true ↔ t.made = 0 ∧ t.file = fl ∧ t.lo ≤ lo ∧ lo < t.hi := by
  unfold atPd; simp [and_assoc]
theorem box_kept {w6 w7 : World} {X : Obj} {B : Nat} {t : Ov} {r : Option Nat} (h : BoxAt w6 B t) (hg : (w6.alloc X).grownBy w7 r) (hn : r ≠ some B) : BoxAt w7 B t := by
  have hb : w7.heap[B]? = w6.heap[B]? := by rw [hg.block B (by have := h.1; simp; omega) (fun e => hn e.symm), Below.heap_alloc _ _ _ h.1]
  refine ⟨?_, fun i v hv => ?_⟩
  · have h1 := h.1
    have h2 := hg.size
    simp at h2
    omega
  · have := h.2 i v hv
    simpa [World.cell?, hb] using this
/-- Tokens that a call can reckon with. -/
def Fine (ts : List Ov) : Prop := ∀ (j : Nat) t, ts[j]? = some t → t.hi ≤ 9223372036854775807 ∧ t.calls.length ≤ 1048576

set_option maxRecDepth 100000 in
set_option maxHeartbeats 8000000 in
theorem Tells_walk (a : Option Addr) (cap : Nat) (fs : List Sr) (at' : Option Addr) (ct : Nat) (ts : List Ov) (fl lo' : Int) (w : World) (hF : FlAt w a fs) (hS : Short fs) (hfl : fs.length ≤ 1048576) (hT : OsAt w at' ts) (hl : ts.length ≤ 1048576) (hfn : Fine ts) :
    Calls Try.prog 3 #[.slice a fs.length cap, .slice at' ts.length ct, .int .i64 fl, .int .i64 lo'] w fun e w' => e = .returned (.bool true) ∧ Below w.heap.size w w' := by
  obtain ⟨j0, hj, hy0, hy1, hy2⟩ := info_parts info_int
  have HF := hid hF
  have HT := hid hT
  have HFn := hid hfn
  have HS := hid hS
  clear hF hT hfn hS
  go_enter Try.func3, Try.ntmps3
  go_wp2_with fail
  go_loopw [9, 10, 23] (fun v9 v10 x wr => ∃ i : Nat, i ≤ ts.length ∧ x = .int .i64 i ∧ Hid (LawSt w (atPd fl lo') ts i i v9 v10 wr)) (fun _ _ x _ => ts.length - (intOf x).toNat)
  case atStart => exact ⟨0, Nat.zero_le _, rfl, Below.refl _ _, World.ownsRow_nil _ _ _ _, World.ownsRow_nil _ _ _ _, .inl rfl⟩
  case round =>
    obtain ⟨i, hi, rfl, HN⟩ := hrel
    obtain ⟨av9, nv9, cv9, rfl⟩ := row_slice HN.out.own9
    obtain ⟨av10, nv10, cv10, rfl⟩ := row_slice HN.out.own10
    have HBlt : Hid (Value.ownBlock (.slice av10 nv10 cv10) ≠ some wr.heap.size) := fun h => by have := (HN.out.own10.lt _ h).2; omega
    by_cases hlt : i < ts.length
    · have hx : ts[i]? = some ts[i] := List.getElem?_eq_getElem hlt
      obtain ⟨b, off, hca, hb, hcs, hc⟩ := (HT.out.below HN.out.old).at i _ hx
      obtain ⟨hhi, hcl⟩ := HFn.out i _ hx
      generalize ts[i] = t at hx hc hcs hhi hcl
      have HX := hid hx
      have HCs := hid hcs
      have HSp := hid (fun W (hb : Below w.heap.size w W) => Span_any a cap fs t W (HF.out.below hb) HS.out hhi)
      have HRs := hid (fun W (hb : Below w.heap.size w W) => RSpan_any a cap fs t W (HF.out.below hb) HS.out hfl)
      have HRi := hid (fun W (hb : Below wr.heap.size wr W) => Right_any a cap fs t W (HF.out.below (HN.out.old.trans (hb.mono HN.out.old.size))) HS.out hhi (HCs.out.below hb) hcl)
      have HRr := hid (fun W (hb : Below wr.heap.size wr W) => RRight_any a cap fs t W (HF.out.below (HN.out.old.trans (hb.mono HN.out.old.size))) HS.out hfl (HCs.out.below hb) hcl)
      have HOu := hid (fun W (hb : Below wr.heap.size wr W) => Outer_any t W (HCs.out.below hb))
      have HBx := hid (BoxAt.new wr t)
      have HBw := hid ((Below.refl wr.heap.size wr).alloc (Nat.le_refl _) (boxO t))
      unfold SpanPost at HSp HRs
      unfold StandsPost at HRi HRr
      unfold OuterPost at HOu
      unfold aggO at HSp HRs HRi HRr HOu
      generalize (spanP fs t).getD ⟨#[]⟩ = sp at HSp HRs
      generalize (spanP fs t).isSome = ok at HSp HRs
      generalize rightP fs t = ri at HRi HRr
      have c0 := hc 0 _ rfl
      have c1 := hc 1 _ rfl
      have c2 := hc 2 _ rfl
      have c3 := hc 3 _ rfl
      have c4 := hc 4 _ rfl
      have c5 := hc 5 _ rfl
      have c6 := hc 6 _ rfl
      have c7 := hc 7 _ rfl
      have c8 := hc 8 _ rfl
      have c9 := hc 9 _ rfl
      have c10 := hc 10 _ rfl
      simp only [Nat.add_zero] at c0
      subst hca
      have hbb : b ≠ wr.heap.size := by omega
      clear hc hx hcs
      go_wp2_with fail
      generalize World.alloc wr (boxO t) = wb at *
      clear c0 c1 c2 c3 c4 c5 c6 c7 c8 c9 c10
      have HOb := hid (HN.out.old.trans (HBw.out.mono HN.out.old.size))
      refine (HSp.out wb HOb.out).mono ?_
      rintro e w2 ⟨rfl, hb2⟩
      have HBw2 := hid (HBw.out.trans (hb2.mono HBw.out.size))
      have HBx2 := hid (HBx.out.below hb2)
      have HOb2 := hid (HN.out.old.trans (HBw2.out.mono HN.out.old.size))
      obtain ⟨c0, c1, c2, c3, c4, c5, c6, c7, c8, c9, c10⟩ := HBx2.out.cells
      clear hb2 HBw HBx HOb HSp
      go_wp2_with fail
      refine (HRs.out w2 HOb2.out).mono ?_
      rintro e w3 ⟨rfl, hb3⟩
      have HBw3 := hid (HBw2.out.trans (hb3.mono HBw2.out.size))
      have HBx3 := hid (HBx2.out.below hb3)
      clear hb3 HBw2 HBx2 HOb2 HRs c0 c1 c2 c3 c4 c5 c6 c7 c8 c9 c10
      obtain ⟨c0, c1, c2, c3, c4, c5, c6, c7, c8, c9, c10⟩ := HBx3.out.cells
      have y0 := Later.cell c0
      have y1 := Later.cell c1
      have y2 := Later.cell c2
      have y3 := Later.cell c3
      have y4 := Later.cell c4
      have y5 := Later.cell c5
      have y6 := Later.cell c6
      have y7 := Later.cell c7
      have y8 := Later.cell c8
      have y9 := Later.cell c9
      have y10 := Later.cell c10
      have HRi2 := hid (fun p : Later w3 => HRi.out p.W (HBw3.out.trans (p.hb.mono HBw3.out.size)))
      have HRr2 := hid (fun p : Later w3 => HRr.out p.W (HBw3.out.trans (p.hb.mono HBw3.out.size)))
      have hnn : Nonempty (Later w3) := ⟨⟨_, Below.refl _ _⟩⟩
      clear c0 c1 c2 c3 c4 c5 c6 c7 c8 c9 c10
      go_wp2_with fail
      refine region_later (by kernel_rfl) (by kernel_rfl) ?_
      repeat (first | go_big_quiet_step (first | (go_at_call 6; exact Calls.later (HRi2.out _)) | (go_at_call 7; exact Calls.later (HRr2.out _))) | quiet_step (first | (go_at_call 6; exact Calls.later (HRi2.out _)) | (go_at_call 7; exact Calls.later (HRr2.out _))))
      refine wpQuiet_nil ?_
      rintro _ ⟨p, rfl⟩
      have HBw4 := hid (HBw3.out.trans (p.hb.mono HBw3.out.size))
      have HBx4 := hid (HBx3.out.below p.hb)
      clear y0 y1 y2 y3 y4 y5 y6 y7 y8 y9 y10 hnn HRi HRr HRi2 HRr2 HBw3 HBx3
      generalize p.W = w4 at HBw4 HBx4 ⊢
      obtain ⟨c0, c1, c2, c3, c4, c5, c6, c7, c8, c9, c10⟩ := HBx4.out.cells
      go_wp2_with fail
      refine (HOu.out w4 HBw4.out).mono ?_
      rintro e w5 ⟨rfl, hb5⟩
      have HBw5 := hid (HBw4.out.trans (hb5.mono HBw4.out.size))
      have HBx5 := hid (HBx4.out.below hb5)
      clear hb5 HBw4 HBx4 HOu c0 c1 c2 c3 c4 c5 c6 c7 c8 c9 c10
      obtain ⟨c0, c1, c2, c3, c4, c5, c6, c7, c8, c9, c10⟩ := HBx5.out.cells
      by_cases h0 : 0 < t.calls.length
      · obtain ⟨b', off', hca', hb', q0, q1, q2⟩ := (HCs.out.below HBw5.out).at 0 h0
        rw [outerP_some t h0]
        have HN6 := hid ((HN.out.below HBw5.out).skip10 t HX.out (by unfold herePd; exact decide_eq_false (by omega)))
        generalize t.calls[0] = q at *
        rw [hca'] at c9
        simp only [Nat.zero_mul, Nat.add_zero] at q0 q1 q2
        generalize t.calls.length = N at *
        have h0' : (0 : Int) < (N : Int) := by omega
        have d0 : decide ((0 : Int) < (N : Int)) = true := decide_eq_true h0'
        go_wp2_with fail
        go_quiet (fail)
        have HN6' := hid (HN6.out.below (bel_drewN (Below.refl _ w5) nq))
        have HBx6 := hid (HBx5.out.below (bel_drewN (Below.refl _ w5) nq))
        have q1' := (drewN_cell w5 _ nq).trans q1
        have q2' := (drewN_cell w5 _ nq).trans q2
        have c9' := (drewN_cell w5 _ nq).trans c9
        clear q0 q1 q2 c0 c1 c2 c3 c4 c5 c6 c7 c8 c9 c10 HN6 HBx5 HBw5
        generalize w5.drewN nq = w6 at *
        go_wp2_with fail
        go_quiet (fail)
        have HN7 := hid (HN6'.out.below (bel_drewN (Below.refl _ w6) nq))
        have HBx7 := hid (HBx6.out.below (bel_drewN (Below.refl _ w6) nq))
        clear q1' q2' c9' HN6' HBx6
        generalize w6.drewN nq = w7 at *
        have HBx8 := hid (HBx7.out)
        obtain ⟨c0, c1, c2, c3, c4, c5, c6, c7, c8, c9, c10⟩ := HBx8.out.cells
        have hown := HN7.out.own9
        have hold := HN7.out.old.size
        have hfew := numsTo_few (atPd fl lo') ts i
        by_cases hp : atPd fl lo' t = true
        · have HS9 := hid (fun v' w2 X => HN7.out.next9 (v' := v') (w2 := w2) (X := X) t HX.out hp)
          obtain ⟨p1, p2, p3, p4⟩ := (atPd_true fl lo' t).1 hp
          rw [p1] at c10
          rw [p2] at c4
          clear hp p1 p2
          go_wp2_with (at_builtin; refine wpList_append_own_at _ rfl _ _ 25 rfl w.heap.size 3 j0 _ 1 8 Try.underlying25 hj hy0 hy1 hy2 rfl (by decide) _ _ _ rfl (hown.alloc _) ⟨w7.heap.size, 0, none⟩ 1 1 [.int .i64 (i : Int)] rfl rfl (one_new w7 _ _) (by simp; rfl) (by unfold maxLen; omega) (by omega) (by simp; omega) ?_)
          intro v' w8 hown8 hg8 _ hv8
          have HN8 := hid (HS9.out v' w8 _ hown8 hg8 hv8)
          obtain ⟨av8, nv8, cv8, rfl⟩ := row_slice hown8
          clear hown8 hg8 hv8 hown hold HS9 HN7
          go_wp2
          go_roundw
          case rel => exact ⟨i + 1, hlt, by go_num, HN8.out⟩
          case measure => simp [intOf]; omega
        · have hp' : atPd fl lo' t = false := by simpa using hp
          have HS9 := hid (HN7.out.skip9 t HX.out hp')
          have hp2 := fun h => hp ((atPd_true fl lo' t).2 h)
          clear hp hp'
          have HP2 := hid hp2
          clear hp2
          go_wp2_with (at_builtin; exfalso; exact HP2.out (by simp_all))
          all_goals go_roundw
          all_goals first
            | exact ⟨i + 1, hlt, by go_num, HS9.out⟩
            | (simp [intOf]; omega)
      · rw [outerP_none t h0]
        have hh0 : herePd t = true := by unfold herePd; exact decide_eq_true (by omega)
        have HN6 := hid (HN.out.below HBw5.out)
        generalize hN0 : t.calls.length = N at *
        obtain rfl : N = 0 := by omega
        go_wp2_with fail
        go_quiet (fail)
        have HN6' := hid (HN6.out.below (bel_drewN (Below.refl _ w5) nq))
        have HBx6 := hid (HBx5.out.below (bel_drewN (Below.refl _ w5) nq))
        have c9' := (drewN_cell w5 _ nq).trans c9
        clear c0 c1 c2 c3 c4 c5 c6 c7 c8 c9 c10 HN6 HBx5 HBw5
        generalize w5.drewN nq = w6 at *
        have hown := HN6'.out.own10
        have hold := HN6'.out.old.size
        have hfew := numsTo_few herePd ts i
        have HS10 := hid (fun v' w2 X => HN6'.out.next10 (v' := v') (w2 := w2) (X := X) t HX.out hh0)
        clear hh0 hN0
        go_wp2_with (at_builtin; refine wpList_append_own_at _ rfl _ _ 25 rfl w.heap.size 3 j0 _ 1 8 Try.underlying25 hj hy0 hy1 hy2 rfl (by decide) _ _ _ rfl (hown.alloc _) ⟨w6.heap.size, 0, none⟩ 1 1 [.int .i64 (i : Int)] rfl rfl (one_new w6 _ _) (by simp; rfl) (by unfold maxLen; omega) (by omega) (by simp; omega) ?_)
        intro v' w7 hown7 hg7 _ hv7
        have HN7 := hid (HS10.out v' w7 _ hown7 hg7 hv7)
        have HBx7 := hid (box_kept HBx6.out hg7 HBlt.out)
        obtain ⟨av7, nv7, cv7, rfl⟩ := row_slice hown7
        clear hown7 hg7 hv7 hown hold hfew HS10 HN6' HBx6
        have HBx8 := hid (HBx7.out)
        obtain ⟨c0, c1, c2, c3, c4, c5, c6, c7, c8, c9, c10⟩ := HBx8.out.cells
        have hown := HN7.out.own9
        have hold := HN7.out.old.size
        have hfew := numsTo_few (atPd fl lo') ts i
        by_cases hp : atPd fl lo' t = true
        · have HS9 := hid (fun v' w2 X => HN7.out.next9 (v' := v') (w2 := w2) (X := X) t HX.out hp)
          obtain ⟨p1, p2, p3, p4⟩ := (atPd_true fl lo' t).1 hp
          rw [p1] at c10
          rw [p2] at c4
          clear hp p1 p2
          go_wp2_with (at_builtin; refine wpList_append_own_at _ rfl _ _ 25 rfl w.heap.size 3 j0 _ 1 8 Try.underlying25 hj hy0 hy1 hy2 rfl (by decide) _ _ _ rfl (hown.alloc _) ⟨w7.heap.size, 0, none⟩ 1 1 [.int .i64 (i : Int)] rfl rfl (one_new w7 _ _) (by simp; rfl) (by unfold maxLen; omega) (by omega) (by simp; omega) ?_)
          intro v' w8 hown8 hg8 _ hv8
          have HN8 := hid (HS9.out v' w8 _ hown8 hg8 hv8)
          obtain ⟨av8, nv8, cv8, rfl⟩ := row_slice hown8
          clear hown8 hg8 hv8 hown hold HS9 HN7
          go_wp2
          go_roundw
          case rel => exact ⟨i + 1, hlt, by go_num, HN8.out⟩
          case measure => simp [intOf]; omega
        · have hp' : atPd fl lo' t = false := by simpa using hp
          have HS9 := hid (HN7.out.skip9 t HX.out hp')
          have hp2 := fun h => hp ((atPd_true fl lo' t).2 h)
          clear hp hp'
          have HP2 := hid hp2
          clear hp2
          go_wp2_with (at_builtin; exfalso; exact HP2.out (by simp_all))
          all_goals go_roundw
          all_goals first
            | exact ⟨i + 1, hlt, by go_num, HS9.out⟩
            | (simp [intOf]; omega)
    · obtain rfl : i = ts.length := by omega
      obtain ⟨b9, d9, hv9, hn9⟩ := NsAt.of_row HN.out.own9
      obtain ⟨b10, d10, hv10, hn10⟩ := NsAt.of_row HN.out.own10
      rw [hv9, hv10]
      have HN9 := hid hn9
      have HN10 := hid hn10
      have HAt := hid (At_any at' ct ts fl lo' wr (HT.out.below HN.out.old) hl)
      have HHe := hid (fun W (hb : Below wr.heap.size wr W) => Here_any at' ct ts W (HT.out.below (HN.out.old.trans (hb.mono HN.out.old.size))) hl)
      have hf9 := numsTo_few (atPd fl lo') ts ts.length
      have hf10 := numsTo_few herePd ts ts.length
      unfold NumsPost at HAt HHe
      generalize numsTo (atPd fl lo') ts ts.length = l9 at *
      generalize numsTo herePd ts ts.length = l10 at *
      have HO := hid HN.out.old
      clear hv9 hv10 hn9 hn10 HN HBlt HFn HS HF HT
      go_wp2_with fail
      refine HAt.out.mono ?_
      rintro e w2 ⟨a2, c2, rfl, hn2, hb2⟩
      have HB2 := hid hb2
      have HSm := hid (same_eq a2 b9 c2 d9 l9 w2 hn2 (HN9.out.below hb2) (by omega))
      clear hn2 hb2
      go_wp2_with fail
      refine HSm.out.mono ?_
      rintro e w3 ⟨rfl, hb3⟩
      have HB3 := hid (HB2.out.trans (hb3.mono HB2.out.size))
      clear hb3 HB2
      go_wp2_with fail
      refine (HHe.out w3 HB3.out).mono ?_
      rintro e w4 ⟨a4, c4, rfl, hn4, hb4⟩
      have HB4 := hid (HB3.out.trans (hb4.mono HB3.out.size))
      have HSm4 := hid (same_eq a4 b10 c4 d10 l10 w4 hn4 (HN10.out.below HB4.out) (by omega))
      clear hn4 hb4
      go_wp2_with fail
      refine HSm4.out.mono ?_
      rintro e w5 ⟨rfl, hb5⟩
      have HB5 := hid (HB4.out.trans (hb5.mono HB4.out.size))
      clear hb5
      go_wp2_with fail
      go_ret
      exact ⟨rfl, HO.out.trans (HB5.out.mono HO.out.size)⟩
end Go.Proofs.Ytdkkdkdddfihpaa
