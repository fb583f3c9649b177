/- Walks of clash and misfit: a call returns the first error of edits that are in order, and leaves all that lay in memory as it was. -/
import Derived.Test.YthklodlhbafehaaDoorSorted
namespace Go.Proofs.YthklodlhbafehaaDoor
open Go.RowKit Go.Shelf

def clashB (x y : Ed) : Bool := x.file == y.file && (decide (y.lo < x.hi) || x.lo == y.lo)

set_option maxHeartbeats 400000 in
theorem clash_core (f1 l1 h1 f2 l2 h2 : Int) (t1 t2 : ByteArray) (W : World) : Calls Tryd.prog 48 #[.agg #[.int .i64 f1, .int .i64 l1, .int .i64 h1, .string t1], .agg #[.int .i64 f2, .int .i64 l2, .int .i64 h2, .string t2]] W
    fun e w' => e = .returned (.bool (f1 == f2 && (decide (l2 < h1) || l1 == l2))) ∧ Below W.heap.size W w' := by
  have HB : Hid (Below W.heap.size W ((W.alloc (.cells #[.int .i64 f1, .int .i64 l1, .int .i64 h1, .string t1] 41)).alloc (.cells #[.int .i64 f2, .int .i64 l2, .int .i64 h2, .string t2] 41))) := ((Below.refl _ _).alloc (Nat.le_refl _) _).alloc (by simp) _
  generalize hr : (f1 == f2 && (decide (l2 < h1) || l1 == l2)) = r
  have HR := hid hr
  clear hr
  cases hf : (f1 == f2) with
  | false =>
    have HE : Hid (r = false) := by show _ = _; rw [← HR.out, hf]; rfl
    go_enter Tryd.func48, Tryd.ntmps48
    go_wp2
    go_ret
    exact ⟨ret_bool HE.out.symm, HB.out⟩
  | true =>
    by_cases hl : l2 < h1
    · have HE : Hid (r = true) := by show _ = _; rw [← HR.out, hf]; simp [hl]
      go_enter Tryd.func48, Tryd.ntmps48
      go_wp2
      go_ret
      exact ⟨ret_bool HE.out.symm, HB.out⟩
    · have hd : decide (l2 < h1) = false := by simpa using hl
      cases hk : (l1 == l2) with
      | true =>
        have HE : Hid (r = true) := by show _ = _; rw [← HR.out, hf, hd, hk]; rfl
        go_enter Tryd.func48, Tryd.ntmps48
        go_wp2
        go_ret
        exact ⟨ret_bool HE.out.symm, HB.out⟩
      | false =>
        have HE : Hid (r = false) := by show _ = _; rw [← HR.out, hf, hd, hk]; rfl
        go_enter Tryd.func48, Tryd.ntmps48
        go_wp2
        go_ret
        exact ⟨ret_bool HE.out.symm, HB.out⟩

/-- The text of a file. -/
def textOf (fs : List Src) (f : Int) : ByteArray := (fs[f.toNat]?.getD default).2

def misfitFrom (fs : List Src) (prev : Option Ed) : List Ed → Int
  | [] => 0
  | e :: r => if e.file < 0 ∨ (fs.length : Int) ≤ e.file then 6
      else if e.lo < 0 ∨ e.hi < e.lo ∨ ((textOf fs e.file).size : Int) < e.hi then 3
      else if (match prev with | some p => clashB p e | none => false) = true then 8 else misfitFrom fs (some e) r

def prevE (es : List Ed) (k : Nat) : Option Ed := if k = 0 then none else es[k - 1]?
theorem prevE_succ (es : List Ed) (k : Nat) (x : Ed) (h : es[k]? = some x) : prevE es (k + 1) = some x := by simp [prevE, h]

theorem EAt.cells {w : World} {a : Option Addr} {es : List Ed} (h : EAt w a es) (k : Nat) (hk : k < es.length) : ∃ b off, a = some ⟨b, off, none⟩ ∧ b < w.heap.size ∧ ∀ j x, es[j]? = some x →
    w.cell? ⟨b, off + j * 4, none⟩ = some (.int .i64 x.file) ∧ w.cell? ⟨b, off + j * 4 + 1, none⟩ = some (.int .i64 x.lo) ∧ w.cell? ⟨b, off + j * 4 + 2, none⟩ = some (.int .i64 x.hi) ∧ w.cell? ⟨b, off + j * 4 + 3, none⟩ = some (.string x.text) := by
  rcases h with rfl | ⟨b, off, rfl, hb, hc⟩
  · simp at hk
  · exact ⟨b, off, rfl, hb, fun j x hx => ⟨hc j x hx 0 _ rfl, hc j x hx 1 _ rfl, hc j x hx 2 _ rfl, hc j x hx 3 _ rfl⟩⟩

theorem wrap_small (q : Nat) (h : q < 9223372036854775807) : IntKind.i64.wrap (q : Int) = (q : Int) := by
  rw [IntKind.wrap_i64]; omega

set_option maxRecDepth 100000 in
set_option maxHeartbeats 1000000 in
theorem misfit_any (a a2 : Option Addr) (cap cap2 : Nat) (fs : List Src) (es : List Ed) (w : World) (hF : FAt w a fs) (hE : EAt w a2 es) (hn : fs.length ≤ maxLen) (hm : es.length ≤ maxLen) (hz : ∀ x ∈ fs, x.2.size ≤ maxLen) :
    Calls Tryd.prog 34 #[.slice a fs.length cap, .slice a2 es.length cap2] w fun e w' => e = .returned (.int .i64 (misfitFrom fs none es)) ∧ Below w.heap.size w w' := by
  unfold maxLen at hn hm
  go_enter Tryd.func34, Tryd.ntmps34
  go_wp2
  go_loopw [5, 6, 9] (fun _ _ i wr => ∃ k : Nat, k ≤ es.length ∧ i = .int .i64 k ∧ Hid (Below w.heap.size w wr ∧ misfitFrom fs none es = misfitFrom fs (prevE es k) (es.drop k))) (fun _ _ i _ => es.length - (intOf i).toNat)
  case atStart => exact ⟨0, Nat.zero_le _, rfl, Below.refl _ _, by simp [prevE]⟩
  case round =>
    obtain ⟨k, hk, rfl, H⟩ := hrel
    obtain ⟨hB, hW⟩ := H.out
    have HW := hid hW
    have HB := hid hB
    clear H hW hB
    by_cases hlt : k < es.length
    · obtain ⟨b, off, rfl, hb, hc⟩ := hE.cells k hlt
      have hgx : es[k]? = some es[k] := List.getElem?_eq_getElem hlt
      obtain ⟨c0, c1, c2, c3⟩ := hc k es[k] hgx
      have HC := hid hc
      have HX := hid hgx
      have HD : Hid (es.drop k = es[k] :: es.drop (k + 1)) := List.drop_eq_getElem_cons hlt
      rw [← HB.out.cell (p := ⟨b, _, none⟩) hb] at c0 c1 c2 c3
      generalize es[k] = x at c0 c1 c2 c3 HX HD
      obtain ⟨f, lo, hi, tx⟩ := x
      simp only [Ed.file, Ed.lo, Ed.hi, Ed.text] at c0 c1 c2 c3
      clear hc hgx
      have hB1 : Below wr.heap.size wr (wr.alloc (.cells #[.int .i64 f, .int .i64 lo, .int .i64 hi, .string tx] 41)) := (Below.refl _ _).alloc (Nat.le_refl _) _
      have HB1 := hid (HB.out.trans (hB1.mono HB.out.size))
      by_cases hf0 : f < 0 ∨ (fs.length : Int) ≤ f
      · have HF : Hid (misfitFrom fs none es = 6) := by show _ = _; rw [HW.out, HD.out]; simp [misfitFrom, hf0]
        clear HW HD HX HC hB1
        by_cases hf1 : f < 0
        all_goals
          go_wp2
          go_ret
          exact ⟨ret_int HF.out.symm, HB1.out⟩
      · have hf1 : ¬ f < 0 := fun h => hf0 (.inl h)
        have hf2 : ¬ (fs.length : Int) ≤ f := fun h => hf0 (.inr h)
        obtain ⟨fi, rfl⟩ : ∃ fi : Nat, f = fi := ⟨f.toNat, by omega⟩
        have hfi : fi < fs.length := by omega
        rcases id hF with rfl | ⟨fb, foff, rfl, hfb, hfc⟩
        · simp at hfi
        have hgf : fs[fi]? = some fs[fi] := List.getElem?_eq_getElem hfi
        have ct := (hfc fi fs[fi] hgf).2
        have hzt := hz fs[fi] (List.getElem_mem hfi)
        rw [← HB.out.cell (p := ⟨fb, _, none⟩) hfb] at ct
        have HT : Hid (textOf fs fi = fs[fi].2) := by show _ = _; simp [textOf, hfi]
        generalize fs[fi].2 = T at ct hzt HT
        unfold maxLen at hzt
        have hbw : b < wr.heap.size := Nat.lt_of_lt_of_le hb HB.out.size
        have hfbw : fb < wr.heap.size := Nat.lt_of_lt_of_le hfb HB.out.size
        have hne : fb ≠ wr.heap.size := by omega
        have hd1 : decide ((fi : Int) < 0) = false := by simp
        have hd2 : decide ((fs.length : Int) ≤ (fi : Int)) = false := by simpa using hf2
        by_cases hbad : lo < 0 ∨ hi < lo ∨ (T.size : Int) < hi
        · have HF : Hid (misfitFrom fs none es = 3) := by show _ = _; rw [HW.out, HD.out]; simp [misfitFrom, hf1, hf2, HT.out, hbad]
          clear HW HD HX HC hB1 hgf hfc hf0 HT
          by_cases h1 : lo < 0
          · go_wp2
            go_quiet (fail)
            go_wp2
            go_ret
            exact ⟨ret_int HF.out.symm, below_drewN HB1.out _⟩
          · have hl1 : decide (lo < 0) = false := by simpa using h1
            by_cases h2 : hi < lo
            · go_wp2
              go_quiet (fail)
              go_wp2
              go_ret
              exact ⟨ret_int HF.out.symm, below_drewN HB1.out _⟩
            · have hl2 : decide (hi < lo) = false := by simpa using h2
              have h3 : (T.size : Int) < hi := by omega
              go_wp2
              go_quiet (fail)
              go_wp2
              go_ret
              exact ⟨ret_int HF.out.symm, below_drewN HB1.out _⟩
        · have hl1 : decide (lo < 0) = false := by simp; omega
          have hl2 : decide (hi < lo) = false := by simp; omega
          have hl3 : decide ((T.size : Int) < hi) = false := by simp; omega
          by_cases hk0 : k = 0
          · subst hk0
            have HN : Hid (misfitFrom fs none es = misfitFrom fs (prevE es 1) (es.drop 1)) := by
              show _ = _; rw [HW.out, HD.out, prevE_succ es 0 _ HX.out]; simp [misfitFrom, hf1, hf2, HT.out, hbad, prevE]
            clear HW HD HX HC hB1 hgf hfc hf0 HT
            simp only [Nat.zero_mul, Nat.add_zero] at c0 c1 c2 c3
            go_wp2
            go_quiet (fail)
            go_wp2
            go_quiet (fail)
            go_wp2
            go_roundw
            case rel => exact ⟨1, by omega, by go_num, below_drewN HB1.out _, HN.out⟩
            case measure => simp [intOf]; omega
          · obtain ⟨q, rfl⟩ : ∃ q, k = q + 1 := ⟨k - 1, by omega⟩
            have hgq : es[q]? = some es[q] := List.getElem?_eq_getElem (by omega)
            obtain ⟨p0, p1, p2, p3⟩ := HC.out q es[q] hgq
            rw [← HB1.out.cell (p := ⟨b, _, none⟩) hb] at p0 p1 p2 p3
            have HP : Hid (prevE es (q + 1) = some es[q]) := prevE_succ es q _ hgq
            generalize es[q] = px at p0 p1 p2 p3 HP
            obtain ⟨f', lo', hi', tx'⟩ := px
            simp only [Ed.file, Ed.lo, Ed.hi, Ed.text] at p0 p1 p2 p3
            have hcl := clash_core f' lo' hi' fi lo hi tx' tx
            have HR : Hid (misfitFrom fs none es = if (f' == (fi : Int) && (decide (lo < hi') || lo' == lo)) = true then 8 else misfitFrom fs (prevE es (q + 1 + 1)) (es.drop (q + 1 + 1))) := by
              show _ = _; rw [HW.out, HD.out, prevE_succ es (q + 1) _ HX.out, HP.out]; simp [misfitFrom, hf1, hf2, HT.out, hbad, clashB]
            generalize (f' == (fi : Int) && (decide (lo < hi') || lo' == lo)) = cb at hcl HR
            have HCl := hid hcl
            clear HW HD HX HC hB1 hgf hfc hf0 HT hcl HP hgq hk0
            go_wp2
            go_quiet (fail)
            go_wp2
            have e0 : ((wr.alloc (.cells #[.int .i64 fi, .int .i64 lo, .int .i64 hi, .string tx] 41)).drewN nq).cell? ⟨wr.heap.size, 0, none⟩ = some (.int .i64 fi) := by show (wr.alloc _).cell? _ = _; rw [World.cell?_alloc_mark]; rfl
            have e1 : ((wr.alloc (.cells #[.int .i64 fi, .int .i64 lo, .int .i64 hi, .string tx] 41)).drewN nq).cell? ⟨wr.heap.size, 1, none⟩ = some (.int .i64 lo) := by show (wr.alloc _).cell? _ = _; rw [World.cell?_alloc_mark]; rfl
            have e2 : ((wr.alloc (.cells #[.int .i64 fi, .int .i64 lo, .int .i64 hi, .string tx] 41)).drewN nq).cell? ⟨wr.heap.size, 2, none⟩ = some (.int .i64 hi) := by show (wr.alloc _).cell? _ = _; rw [World.cell?_alloc_mark]; rfl
            have e3 : ((wr.alloc (.cells #[.int .i64 fi, .int .i64 lo, .int .i64 hi, .string tx] 41)).drewN nq).cell? ⟨wr.heap.size, 3, none⟩ = some (.string tx) := by show (wr.alloc _).cell? _ = _; rw [World.cell?_alloc_mark]; rfl
            have p0' : ((wr.alloc (.cells #[.int .i64 fi, .int .i64 lo, .int .i64 hi, .string tx] 41)).drewN nq).cell? ⟨b, off + q * 4, none⟩ = some (.int .i64 f') := p0
            have p1' : ((wr.alloc (.cells #[.int .i64 fi, .int .i64 lo, .int .i64 hi, .string tx] 41)).drewN nq).cell? ⟨b, off + q * 4 + 1, none⟩ = some (.int .i64 lo') := p1
            have p2' : ((wr.alloc (.cells #[.int .i64 fi, .int .i64 lo, .int .i64 hi, .string tx] 41)).drewN nq).cell? ⟨b, off + q * 4 + 2, none⟩ = some (.int .i64 hi') := p2
            have p3' : ((wr.alloc (.cells #[.int .i64 fi, .int .i64 lo, .int .i64 hi, .string tx] 41)).drewN nq).cell? ⟨b, off + q * 4 + 3, none⟩ = some (.string tx') := p3
            have HB2 := hid (below_drewN HB1.out nq)
            clear HB1 p0 p1 p2 p3 c0 c1 c2 c3 ct
            generalize (wr.alloc (.cells #[.int .i64 fi, .int .i64 lo, .int .i64 hi, .string tx] 41)).drewN nq = w2 at *
            have l0 := Later.cell e0
            have l1 := Later.cell e1
            have l2 := Later.cell e2
            have l3 := Later.cell e3
            have m0 := Later.cell p0'
            have m1 := Later.cell p1'
            have m2 := Later.cell p2'
            have m3 := Later.cell p3'
            have hnn : Nonempty (Later w2) := ⟨⟨w2, Below.refl _ _⟩⟩
            clear e0 e1 e2 e3 p0' p1' p2' p3'
            refine region_later (by kernel_rfl) (by kernel_rfl) ?_
            have hq1 : (q : Int) < (es.length : Int) := by omega
            have hwq : IntKind.i64.wrap (q : Int) = (q : Int) := wrap_small q (by omega)
            repeat (quiet_step ((go_at_call 48; exact Calls.later (HCl.out _))))
            refine wpQuiet_nil ?_
            rintro _ ⟨p, rfl⟩
            have HB3 := hid (HB2.out.trans (p.hb.mono HB2.out.size))
            clear l0 l1 l2 l3 m0 m1 m2 m3
            cases cb with
            | true =>
              go_wp2
              go_ret
              exact ⟨ret_int (by rw [HR.out]; rfl), HB3.out⟩
            | false =>
              go_wp2
              go_roundw
              case rel => exact ⟨q + 1 + 1, by omega, by go_num, HB3.out, by rw [HR.out]; rfl⟩
              case measure => simp [intOf]; omega
    · have hfin : misfitFrom fs none es = 0 := by rw [HW.out, List.drop_eq_nil_of_le (by omega)]; rfl
      have HF := hid hfin
      clear hfin
      go_wp2
      go_ret
      exact ⟨ret_int HF.out.symm, HB.out⟩

end Go.Proofs.YthklodlhbafehaaDoor
