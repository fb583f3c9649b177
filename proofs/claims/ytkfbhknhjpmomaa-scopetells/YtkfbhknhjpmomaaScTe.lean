/- Walk of ScopeTells. -/
import Derived.Test.YtkfbhknhjpmomaaScWe
import Derived.Test.YtkfbhknhjpmomaaScTu
namespace Go.Proofs.Ytkfbhknhjpmomaa
open Go.RowKit Go.Shelf
set_option maxRecDepth 100000 in
set_option maxHeartbeats 4000000 in
theorem tells_any (HR : RToks) (s : ByteArray) (tok : Int) (w : World) : Calls Try.prog 3 #[.string s, .int .i64 tok] w fun e w' => e = .returned (.bool true) ∧ Below w.heap.size w w' := by
  have HT := hid (fun W => toksS_any HR s W)
  have hfew : (toksF 0 s.data.toList).1.length ≤ 6000 := Nat.le_trans (toks_small 0 s.data.toList).1 (by decide)
  have HP := hid (fun a c W hT => RParseT_any (la := a) (lc := c) (toks_full 0 s.data.toList) (toks_small 0 s.data.toList).2 W hT hfew)
  have HS := hid (fun a c n x W hp hT hx => Resolve_any (la := a) (lc := c) (n := n) (x := x) (toks_small 0 s.data.toList).2 W hT hfew hx (cv_wf (parsR_gd (toks_letsR 0 s.data.toList) hp).1) (by have := (parsR_gd (toks_letsR 0 s.data.toList) hp).2; omega))
  have HW := hid (fun a c n x W hp hT hx => RResolve_any (la := a) (lc := c) (n := n) (x := x) (toks_small 0 s.data.toList).2 hfew (parsR_gd (toks_letsR 0 s.data.toList) hp).1 (by have := (parsR_gd (toks_letsR 0 s.data.toList) hp).2; omega) W hT hx)
  have HM := hid (fun n b hp hr => madeB_of (L := (toksF 0 s.data.toList).1) (n := n) (b := b) (toks_letsR 0 s.data.toList) hp hr)
  have HF := hid (fun n b hp hr => Nat.le_trans (res_few (L := (toksF 0 s.data.toList).1) (n := n) (b := b) hr) (parsR_gd (toks_letsR 0 s.data.toList) hp).2)
  have HN := hid hfew
  unfold QPost aggN at HP
  unfold SPost aggN at HS
  unfold RsPost aggN at HW
  unfold ToksS at HT
  clear HR hfew
  generalize (toksF 0 s.data.toList).1 = L at *
  go_enter Try.func3, Try.ntmps3
  go_wp2_with fail
  refine (HT.out _).mono ?_
  rintro e w1 ⟨a, c, rfl, hT1, hb1, _⟩
  have HB1 := hid hb1
  have HP1 := hid (HP.out a c w1 hT1)
  have HT1 := hid hT1
  clear hT1 hb1 HT HP
  go_wp2_with fail
  cases hp : parsR L with
  | error y =>
    rw [hp] at HP1
    dsimp only [zeroN] at HP1
    refine HP1.out.mono ?_
    rintro e w2 ⟨hb2, hy0, rfl⟩
    have HB2 := hid (HB1.out.trans (hb2.mono HB1.out.size))
    obtain ⟨g1, g2, g3, g4⟩ := putNF_facts w2 ⟨0, 0, none, 0, 0⟩ y.1 (placeT L y.2).1 (placeT L y.2).2
    have HB3 := hid (HB2.out.trans (g1.mono HB2.out.size))
    have hy1 : (y.1 == 0) = false := beq_eq_false_iff_ne.2 hy0
    have hy2 : (y.1 != 0) = true := by simp [bne, hy1]
    unfold putNF boxN at HB3
    dsimp only at HB3
    clear hb2 HP1 HB1 HB2 HT1 HS HW g1 g2 g3 g4
    go_wp2_with fail
    go_ret
    exact ⟨rfl, HB3.out⟩
  | ok n =>
    rw [hp] at HP1
    dsimp only at HP1
    refine HP1.out.mono ?_
    rintro e w2 ⟨hb2, x, rfl, hx⟩
    have HB2 := hid (HB1.out.trans (hb2.mono HB1.out.size))
    obtain ⟨xk, xt, xa, xn, xc⟩ := x
    obtain ⟨g1, g2, g3, g4⟩ := putNF_facts w2 ⟨xk, xt, xa, xn, xc⟩ 0 (-1) 0
    have HT2 := hid (HT1.out.below hb2)
    have HX2 := hid (hx.mono fun b hb hlt => hlt : NdIs w2 (· < w2.heap.size) ⟨xk, xt, xa, xn, xc⟩ n)
    have HG := hid g1
    have HT3 := hid (HT1.out.below (hb2.trans (g1.mono hb2.size)))
    have HX3 := hid ((hx.mono fun b hb hlt => hlt).kept (fun b hb _ => g1.block b hb) |>.mono fun b hb hlt => hlt : NdIs (putNF w2 ⟨xk, xt, xa, xn, xc⟩ 0 (-1) 0) (· < (putNF w2 ⟨xk, xt, xa, xn, xc⟩ 0 (-1) 0).heap.size) ⟨xk, xt, xa, xn, xc⟩ n)
    have HS3 := hid (HS.out a c n ⟨xk, xt, xa, xn, xc⟩ (putNF w2 ⟨xk, xt, xa, xn, xc⟩ 0 (-1) 0) hp HT3.out HX3.out)
    have HB3 := hid (HB2.out.trans (g1.mono HB2.out.size))
    have H34 := hid (And.intro g3 g4)
    have hz3 : w2.heap.size + 1 + 1 = (putNF w2 ⟨xk, xt, xa, xn, xc⟩ 0 (-1) 0).heap.size := g2.symm
    obtain ⟨⟨s0, s1, s2⟩, _⟩ := boxN_facts g3
    have hW3 : putNF w2 ⟨xk, xt, xa, xn, xc⟩ 0 (-1) 0 = (w2.alloc (.cells #[.int .i64 xk, .int .i64 xt, .slice xa xn xc] 26)).alloc (.cells #[.int .i64 0, .int .i64 (-1), .int .i64 0] 29) := rfl
    rw [hW3] at s0 s1 s2 HS3 HB3 H34 HT3 HX3 hz3 HG
    dsimp only at s0 s1 s2 HS3 HB3 H34
    clear hb2 hx HP1 HB1 HT1 HS g1 g2 g3 g4 hW3
    obtain ⟨t0, t1, t2⟩ := (scFlt H34.out.2).1
    go_wp2_with fail
    generalize (w2.alloc (.cells #[.int .i64 xk, .int .i64 xt, .slice xa xn xc] 26)).alloc (.cells #[.int .i64 0, .int .i64 (-1), .int .i64 0] 29) = w3 at *
    cases hr : resR L n with
    | error y =>
      have HWr := hid (fun W hT hx => HW.out a c n ⟨xk, xt, xa, xn, xc⟩ W hp hT hx)
      rw [hr] at HS3 HWr
      dsimp only at HS3 HWr
      refine HS3.out.mono ?_
      rintro e w4 ⟨hb4, rfl⟩
      have hz4 := hb4.size
      have hq4 := (hb4.block _ (lt_of_block H34.out.2)).trans H34.out.2
      have hp4 := (hb4.block _ (lt_of_block H34.out.1)).trans H34.out.1
      obtain ⟨⟨q0, q1, q2⟩, q3, q4, q5⟩ := scFlt hq4
      have hql := lt_of_block hq4
      have hpl := lt_of_block hp4
      have hB25 : Below w2.heap.size w2 (scPutF w4 (w2.heap.size + 1) y.1 (placeT L y.2).1 (placeT L y.2).2) := scPutF_below (HG.out.trans (hb4.mono HG.out.size)) (Nat.le_succ _) _ _ _
      have hp5 := (scPutF_other w4 (w2.heap.size + 1) y.1 (placeT L y.2).1 (placeT L y.2).2 w2.heap.size (by omega)).trans hp4
      have hq5 := scPutF_block y.1 (placeT L y.2).1 (placeT L y.2).2 hq4
      have hsz5 : (scPutF w4 (w2.heap.size + 1) y.1 (placeT L y.2).1 (placeT L y.2).2).heap.size = w4.heap.size := by unfold scPutF; simp
      have HB5 := hid (scPutF_below (HB3.out.trans (hb4.mono HB3.out.size)) (show w.heap.size ≤ w2.heap.size + 1 by have := HB2.out.size; omega) y.1 (placeT L y.2).1 (placeT L y.2).2)
      have HR5 := hid (HWr.out (scPutF w4 (w2.heap.size + 1) y.1 (placeT L y.2).1 (placeT L y.2).2) (HT2.out.below hB25) ((HX2.out.kept fun b hb _ => hB25.block b hb).mono fun b hb hlt => hlt))
      have HPQ := hid (And.intro hp5 hq5)
      clear hb4 hq4 hp4 hB25 hp5 hq5 HS3 HWr s0 s1 s2 t0 t1 t2
      go_upto_region 6 with fail
      change Code.wp _ _ _ _ (scPutF w4 (w2.heap.size + 1) y.1 (placeT L y.2).1 (placeT L y.2).2)
      generalize scPutF w4 (w2.heap.size + 1) y.1 (placeT L y.2).1 (placeT L y.2).2 = w5 at *
      obtain ⟨⟨s0, s1, s2⟩, _⟩ := boxN_facts (x := ⟨xk, xt, xa, xn, xc⟩) HPQ.out.1
      dsimp only at s0 s1 s2
      clear q0 q1 q2 q3 q4 q5
      go_wp2_with fail
      refine HR5.out.mono ?_
      rintro e w6 ⟨hb6, rfl⟩
      have hq6 := (hb6.block _ (lt_of_block HPQ.out.2)).trans HPQ.out.2
      have hb7 := below_new w6 (.cells #[.int .i64 y.1, .int .i64 (placeT L y.2).1, .int .i64 (placeT L y.2).2] 29)
      have hx7 := heap_alloc_new w6 (.cells #[.int .i64 y.1, .int .i64 (placeT L y.2).1, .int .i64 (placeT L y.2).2] 29)
      have HB7 := hid (HB5.out.trans ((hb6.trans (hb7.mono hb6.size)).mono HB5.out.size))
      have hq7 := (hb7.block _ (lt_of_block hq6)).trans hq6
      obtain ⟨⟨u0, u1, u2⟩, _⟩ := scFlt hq7
      obtain ⟨⟨v0, v1, v2⟩, _⟩ := scFlt hx7
      have HSa := hid (same_any none none 0 0 [] (w6.alloc (.cells #[.int .i64 y.1, .int .i64 (placeT L y.2).1, .int .i64 (placeT L y.2).2] 29)) (.inl rfl) (.inl rfl) (by simp))
      have HO1 := hid (fun W => Of_any none 0 [] tok W (.inl rfl) (fun j k p q _ hp => by simp at hp) (by simp))
      have HO2 := hid (fun W => rof_any none 0 [] tok W (.inl rfl) (fun j k p q _ hp => by simp at hp) (by simp))
      have hoo : (ofR [] tok == ofR [] tok) = true := by simp
      simp only [List.length_nil] at HSa HO1 HO2
      generalize ofR [] tok = o at *
      have hw67 : w6.heap.size < (w6.alloc (.cells #[.int .i64 y.1, .int .i64 (placeT L y.2).1, .int .i64 (placeT L y.2).2] 29)).heap.size := by simp
      clear hb6 hb7 hx7 hq6 hq7 s0 s1 s2
      go_wp2_with fail
      refine HSa.out.mono ?_
      rintro e w8 ⟨rfl, hb8⟩
      have HB8 := hid (HB7.out.trans (hb8.mono HB7.out.size))
      have HQ1 := hid (HO1.out w8)
      clear hb8 HSa
      go_wp2_with fail
      refine HQ1.out.mono ?_
      rintro e w9 ⟨rfl, hb9⟩
      have HB9 := hid (HB8.out.trans (hb9.mono HB8.out.size))
      have HQ2 := hid (HO2.out w9)
      clear hb9 HQ1
      go_wp2_with fail
      refine HQ2.out.mono ?_
      rintro e w10 ⟨rfl, hb10⟩
      have HB10 := hid (HB9.out.trans (hb10.mono HB9.out.size))
      clear hb10 HQ2
      go_wp2_with fail
      go_ret
      exact ⟨rfl, HB10.out⟩
    | ok b =>
      have HWr := hid (fun W hT hx => HW.out a c n ⟨xk, xt, xa, xn, xc⟩ W hp hT hx)
      rw [hr] at HS3 HWr
      dsimp only at HS3 HWr
      have hM := HM.out n b hp hr
      have hbf := HF.out n b hp hr
      have hbl : b.length ≤ 1000000 := by have := HN.out; omega
      have hri := hM.rise
      refine HS3.out.mono ?_
      rintro e w4 ⟨hb4, ba, bc, rfl, hrow⟩
      have hz4 := hb4.size
      have hq4 := (hb4.block _ (lt_of_block H34.out.2)).trans H34.out.2
      have hp4 := (hb4.block _ (lt_of_block H34.out.1)).trans H34.out.1
      obtain ⟨⟨q0, q1, q2⟩, q3, q4, q5⟩ := scFlt hq4
      have hql := lt_of_block hq4
      have hpl := lt_of_block hp4
      have hB25 : Below w2.heap.size w2 (scPutF w4 (w2.heap.size + 1) 0 (-1) 0) := scPutF_below (HG.out.trans (hb4.mono (by omega))) (Nat.le_succ _) _ _ _
      have hp5 := (scPutF_other w4 (w2.heap.size + 1) 0 (-1) 0 w2.heap.size (by omega)).trans hp4
      have hq5 := scPutF_block 0 (-1) 0 hq4
      have hsz5 : (scPutF w4 (w2.heap.size + 1) 0 (-1) 0).heap.size = w4.heap.size := by unfold scPutF; simp
      have HB5 := hid (scPutF_below (HB3.out.trans (hb4.mono HB3.out.size)) (show w.heap.size ≤ w2.heap.size + 1 by have := HB2.out.size; omega) 0 (-1) 0)
      have HR5 := hid (HWr.out (scPutF w4 (w2.heap.size + 1) 0 (-1) 0) (HT2.out.below hB25) ((HX2.out.kept fun b hb _ => hB25.block b hb).mono fun b hb hlt => hlt))
      have HPQ := hid (And.intro hp5 hq5)
      have hBd5 : BdAt (scPutF w4 (w2.heap.size + 1) 0 (-1) 0) ba b := by
        refine BdAt.of (c := bc) (n := b.length) (row_same hrow fun q hq hlt => scPutF_other w4 _ _ _ _ q fun e => ?_)
        have := (hrow.lt q hq).1
        omega
      have HBd5 := hid hBd5
      clear hb4 hq4 hp4 hB25 hp5 hq5 HS3 HWr s0 s1 s2 t0 t1 t2 hrow hBd5
      go_upto_region 6 with fail
      change Code.wp _ _ _ _ (scPutF w4 (w2.heap.size + 1) 0 (-1) 0)
      generalize scPutF w4 (w2.heap.size + 1) 0 (-1) 0 = w5 at *
      obtain ⟨⟨s0, s1, s2⟩, _⟩ := boxN_facts (x := ⟨xk, xt, xa, xn, xc⟩) HPQ.out.1
      dsimp only at s0 s1 s2
      clear q0 q1 q2 q3 q4 q5
      go_wp2_with fail
      refine HR5.out.mono ?_
      rintro e w6 ⟨hb6, b2, c2, rfl, hbd6⟩
      have hq6 := (hb6.block _ (lt_of_block HPQ.out.2)).trans HPQ.out.2
      have hb7 := below_new w6 (.cells #[.int .i64 0, .int .i64 (-1), .int .i64 0] 29)
      have hx7 := heap_alloc_new w6 (.cells #[.int .i64 0, .int .i64 (-1), .int .i64 0] 29)
      have HB7 := hid (HB5.out.trans ((hb6.trans (hb7.mono hb6.size)).mono HB5.out.size))
      have hq7 := (hb7.block _ (lt_of_block hq6)).trans hq6
      obtain ⟨⟨u0, u1, u2⟩, _⟩ := scFlt hq7
      obtain ⟨⟨v0, v1, v2⟩, _⟩ := scFlt hx7
      have HBd7 := hid (hbd6.below hb7)
      have HSa := hid (same_any ba b2 bc c2 b (w6.alloc (.cells #[.int .i64 0, .int .i64 (-1), .int .i64 0] 29)) (HBd5.out.below (hb6.trans (hb7.mono hb6.size))) HBd7.out hbl)
      have HO1 := hid (fun W hW => Of_any b2 c2 b tok W hW hri hbl)
      have HO2 := hid (fun W hW => rof_any b2 c2 b tok W hW hri hbl)
      have hoo : (ofR b tok == ofR b tok) = true := by simp
      generalize ofR b tok = o at *
      have hw67 : w6.heap.size < (w6.alloc (.cells #[.int .i64 0, .int .i64 (-1), .int .i64 0] 29)).heap.size := by simp
      clear hb6 hb7 hx7 hq6 hq7 s0 s1 s2 hbd6 hM hbf hri
      go_wp2_with fail
      refine HSa.out.mono ?_
      rintro e w8 ⟨rfl, hb8⟩
      have HB8 := hid (HB7.out.trans (hb8.mono HB7.out.size))
      have HBd8 := hid (HBd7.out.below hb8)
      have HQ1 := hid (HO1.out w8 HBd8.out)
      clear hb8 HSa
      go_wp2_with fail
      refine HQ1.out.mono ?_
      rintro e w9 ⟨rfl, hb9⟩
      have HB9 := hid (HB8.out.trans (hb9.mono HB8.out.size))
      have HQ2 := hid (HO2.out w9 (HBd8.out.below hb9))
      clear hb9 HQ1
      go_wp2_with fail
      refine HQ2.out.mono ?_
      rintro e w10 ⟨rfl, hb10⟩
      have HB10 := hid (HB9.out.trans (hb10.mono HB9.out.size))
      clear hb10 HQ2
      go_wp2_with fail
      go_ret
      exact ⟨rfl, HB10.out⟩
end Go.Proofs.Ytkfbhknhjpmomaa
