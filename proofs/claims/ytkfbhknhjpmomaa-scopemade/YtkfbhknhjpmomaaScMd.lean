/- Walk of ScopeMade. -/
import Derived.Test.YtkfbhknhjpmomaaScTu
import Derived.Test.YtkfbhknhjpmomaaLater
import Derived.BigQuiet
namespace Go.Proofs.Ytkfbhknhjpmomaa
open Go.RowKit Go.Shelf
theorem bd_cells {w : World} {g k : Nat} {bs : List (Nat × Nat)} {p : Nat × Nat} (h : ∀ (k : Nat) p, bs[k]? = some p → w.cell? ⟨g, k * 2, none⟩ = some (.int .i64 (p.1 : Int)) ∧ w.cell? ⟨g, k * 2 + 1, none⟩ = some (.int .i64 (p.2 : Int))) (hp : bs[k]? = some p) : w.cell? ⟨g, k * 2, none⟩ = some (.int .i64 (p.1 : Int)) ∧ w.cell? ⟨g, k * 2 + 1, none⟩ = some (.int .i64 (p.2 : Int)) := h k p hp
theorem tk_textM {w : World} {b off : Nat} {x : Tk} {j : Nat} (h : ∀ (i : Nat) v, (encT x)[i]? = some v → w.cell? ⟨b, off + j * 11 + i, none⟩ = some v) : w.cell? ⟨b, off + j * 11 + 1, none⟩ = some (.string x.text) := h 1 _ rfl
/-- A bind in a block of its own. -/
theorem bd_facts {w : World} {g : Nat} {x y : Value} (h : w.heap[g]? = some (.cells #[x, y] 40)) : w.cell? ⟨g, 0, none⟩ = some x ∧ w.cell? ⟨g, 1, none⟩ = some y := by
  simp [World.cell?, h]
set_option maxRecDepth 100000 in
set_option maxHeartbeats 4000000 in
theorem made_any (HR : RToks) (s : ByteArray) (w : World) : Calls Try.prog 4 #[.string s] w fun e w' => e = .returned (.bool true) ∧ Below w.heap.size w w' := by
  have HA := hid (aliveS_any HR w)
  have HT := hid (fun W => toksS_any HR s W)
  have hfew : (toksF 0 s.data.toList).1.length ≤ 6000 := Nat.le_trans (toks_small 0 s.data.toList).1 (by decide)
  have HP := hid (fun a c W hT => RParseT_any (la := a) (lc := c) (toks_full 0 s.data.toList) (toks_small 0 s.data.toList).2 W hT hfew)
  have HS := hid (fun a c n x W hp hT hx => Resolve_any (la := a) (lc := c) (n := n) (x := x) (toks_small 0 s.data.toList).2 W hT hfew hx (cv_wf (parsR_gd (toks_letsR 0 s.data.toList) hp).1) (by have := (parsR_gd (toks_letsR 0 s.data.toList) hp).2; omega))
  have HZ := hid (fun a c W hT => Resolve_any (la := a) (lc := c) (n := .mk 0 0 []) (x := zeroN) (toks_small 0 s.data.toList).2 W hT hfew ⟨rfl, rfl, KidsAt.nil⟩ (by rw [wfN_mk]; exact ⟨fun h => by omega, fun h => by omega, by rw [wfL]; trivial⟩) (by rw [zN_mk, zL_nil]; omega))
  have HM := hid (fun n b hp hr => madeB_of (L := (toksF 0 s.data.toList).1) (n := n) (b := b) (toks_letsR 0 s.data.toList) hp hr)
  have HF := hid (fun n b hp hr => Nat.le_trans (res_few (L := (toksF 0 s.data.toList).1) (n := n) (b := b) hr) (parsR_gd (toks_letsR 0 s.data.toList) hp).2)
  have HN := hid hfew
  have HQ : Hid (resR (toksF 0 s.data.toList).1 (.mk 0 0 []) = .ok []) := by
    show resR _ _ = _
    unfold resR
    rw [rsN_mk, if_neg (by omega), if_neg (by omega), if_neg (by omega), if_neg (by omega), if_neg (by omega), rsL_nil]
  unfold QPost aggN at HP
  unfold SPost aggN at HS HZ
  unfold ToksS at HT
  rw [HQ.out] at HZ
  dsimp only [zeroN] at HZ
  clear HR hfew HQ
  generalize (toksF 0 s.data.toList).1 = L at *
  go_enter Try.func4, Try.ntmps4
  go_wp2_with fail
  refine HA.out.mono ?_
  rintro e w0 ⟨rfl, hb0⟩
  have HB0 := hid hb0
  clear hb0 HA
  go_wp2_with fail
  refine (HT.out _).mono ?_
  rintro e w1 ⟨a, c, rfl, hT1, hb1, _⟩
  have HB1 := hid (HB0.out.trans (hb1.mono HB0.out.size))
  have HP1 := hid (HP.out a c w1 hT1)
  have HT1 := hid hT1
  clear hT1 hb1 HT HP HB0
  go_wp2_with fail
  cases hp : parsR L with
  | error y =>
    rw [hp] at HP1
    dsimp only [zeroN] at HP1
    refine HP1.out.mono ?_
    rintro e w2 ⟨hb2, hy0, rfl⟩
    have HB2 := hid (HB1.out.trans (hb2.mono HB1.out.size))
    obtain ⟨g1, g2, g3, g4⟩ := putNF_facts w2 ⟨0, 0, none, 0, 0⟩ y.1 (placeT L y.2).1 (placeT L y.2).2
    have HZ3 := hid (HZ.out a c (putNF w2 ⟨0, 0, none, 0, 0⟩ y.1 (placeT L y.2).1 (placeT L y.2).2) (HT1.out.below (hb2.trans (g1.mono hb2.size))))
    have HB3 := hid (HB2.out.trans (g1.mono HB2.out.size))
    have H4 := hid g4
    have hy1 : (y.1 == 0) = false := beq_eq_false_iff_ne.2 hy0
    have hy2 : (y.1 != 0) = true := by simp [bne, hy1]
    obtain ⟨⟨s0, s1, s2⟩, _⟩ := boxN_facts g3
    unfold putNF boxN at s0 s1 s2 HZ3 HB3 H4
    dsimp only at s0 s1 s2 HZ3 HB3 H4
    clear hb2 HP1 HB1 HB2 HT1 HZ HS g1 g2 g3 g4
    go_wp2_with fail
    refine HZ3.out.mono ?_
    rintro e w4 ⟨hb4, ba, bc, rfl, hrow⟩
    have HB4 := hid (HB3.out.trans (hb4.mono HB3.out.size))
    have HB5 := hid (HB4.out.trans ((below_new w4 (.cells #[.int .i64 0, .int .i64 (-1), .int .i64 0] 29)).mono HB4.out.size))
    have h5 := ((below_new w4 (.cells #[.int .i64 0, .int .i64 (-1), .int .i64 0] 29)).block _ (by have := hb4.size; have := lt_of_block H4.out; omega)).trans ((hb4.block _ (lt_of_block H4.out)).trans H4.out)
    obtain ⟨⟨q0, _, _⟩, _⟩ := scFlt h5
    clear hb4 hrow HZ3 HB3 s0 s1 s2 h5 HB4 H4
    go_wp2_with fail
    go_ret
    exact ⟨rfl, HB5.out⟩
  | ok n =>
    rw [hp] at HP1
    dsimp only at HP1
    refine HP1.out.mono ?_
    rintro e w2 ⟨hb2, x, rfl, hx⟩
    have HB2 := hid (HB1.out.trans (hb2.mono HB1.out.size))
    obtain ⟨xk, xt, xa, xn, xc⟩ := x
    obtain ⟨g1, g2, g3, g4⟩ := putNF_facts w2 ⟨xk, xt, xa, xn, xc⟩ 0 (-1) 0
    have HT3 := hid (HT1.out.below (hb2.trans (g1.mono hb2.size)))
    have HS3 := hid (HS.out a c n ⟨xk, xt, xa, xn, xc⟩ (putNF w2 ⟨xk, xt, xa, xn, xc⟩ 0 (-1) 0) hp HT3.out ((hx.mono fun b hb hlt => hlt).kept (fun b hb _ => g1.block b hb) |>.mono fun b hb hlt => hlt))
    have HB3 := hid (HB2.out.trans (g1.mono HB2.out.size))
    have H4 := hid g4
    obtain ⟨⟨s0, s1, s2⟩, _⟩ := boxN_facts g3
    unfold putNF boxN at s0 s1 s2 HS3 HB3 H4 HT3
    dsimp only at s0 s1 s2 HS3 HB3 H4 HT3
    clear hb2 hx HP1 HB1 HB2 HT1 HS HZ g1 g2 g3 g4
    go_wp2_with fail
    cases hr : resR L n with
    | error y =>
      rw [hr] at HS3
      dsimp only at HS3
      have hy1 : (y.1 == 0) = false := beq_eq_false_iff_ne.2 (res_ne hr)
      have hy2 : (y.1 != 0) = true := by simp [bne, hy1]
      refine HS3.out.mono ?_
      rintro e w4 ⟨hb4, rfl⟩
      have HB4 := hid (HB3.out.trans (hb4.mono HB3.out.size))
      have HB5 := hid (HB4.out.trans ((below_new w4 (.cells #[.int .i64 y.1, .int .i64 (placeT L y.2).1, .int .i64 (placeT L y.2).2] 29)).mono HB4.out.size))
      have h5 := ((below_new w4 (.cells #[.int .i64 y.1, .int .i64 (placeT L y.2).1, .int .i64 (placeT L y.2).2] 29)).block _ (by have := hb4.size; have := lt_of_block H4.out; omega)).trans ((hb4.block _ (lt_of_block H4.out)).trans H4.out)
      obtain ⟨⟨q0, _, _⟩, _⟩ := scFlt h5
      clear hb4 HS3 HB3 s0 s1 s2 h5 HB4 H4
      go_wp2_with fail
      go_ret
      exact ⟨rfl, HB5.out⟩
    | ok b =>
      rw [hr] at HS3
      dsimp only at HS3
      have hM := HM.out n b hp hr
      have hbf := HF.out n b hp hr
      have HM := hid hM
      have hbl : b.length ≤ 1000000 := by have := HN.out; omega
      refine HS3.out.mono ?_
      rintro e w4 ⟨hb4, ba, bc, rfl, hrow⟩
      have HB4 := hid (HB3.out.trans (hb4.mono HB3.out.size))
      have hb45 := below_new w4 (.cells #[.int .i64 0, .int .i64 (-1), .int .i64 0] 29)
      have HB5 := hid (HB4.out.trans (hb45.mono HB4.out.size))
      have h5 := (hb45.block _ (by have := hb4.size; have := lt_of_block H4.out; omega)).trans ((hb4.block _ (lt_of_block H4.out)).trans H4.out)
      have HBd := hid ((BdAt.of hrow).below hb45)
      have HT5 := hid (HT3.out.below (hb4.trans (hb45.mono hb4.size)))
      obtain ⟨⟨q0, _, _⟩, _⟩ := scFlt h5
      have HO := hid (fun (d : Nat) W hW => Of_any ba bc b (d : Int) W hW hM.rise hbl)
      clear hb4 HS3 HB3 s0 s1 s2 h5 HB4 H4 hrow hb45 HT3 hM hbf HF
      go_wp2_with fail
      generalize w4.alloc (.cells #[.int .i64 0, .int .i64 (-1), .int .i64 0] 29) = w5 at *
      clear q0
      go_loopw [8, 36] (fun u v wr => ∃ (lz : Int) (j : Nat), u = .int .i64 lz ∧ v = .int .i64 (j : Int) ∧ j ≤ b.length ∧ (∀ p, b[j]? = some p → lz < (p.1 : Int)) ∧ Hid (Below w5.heap.size w5 wr)) (fun _ v _ => b.length - (intOf v).toNat)
      case atStart => exact ⟨-1, 0, rfl, rfl, Nat.zero_le _, fun p _ => by omega, Below.refl _ _⟩
      case round =>
        obtain ⟨lz, j, rfl, rfl, hj, hlz, hst⟩ := hrel
        by_cases hjl : j < b.length
        · have hji : (j : Int) < (b.length : Int) := by omega
          have hj0 : (0 : Int) ≤ (j : Int) := by omega
          have hw2 : IntKind.i64.wrap ((j : Int) + 1) = (j : Int) + 1 := by rw [IntKind.wrap_i64]; omega
          obtain ⟨p, hpj⟩ : ∃ p, b[j]? = some p := ⟨_, List.getElem?_eq_getElem hjl⟩
          have hz1 := hlz p hpj
          obtain ⟨k1, k2, k3, k4⟩ := HM.out.tok j p hpj
          have hnx : Hid (∀ q, b[j + 1]? = some q → (p.1 : Int) < (q.1 : Int)) := fun q hq => by have := HM.out.rise j (j + 1) p q (by omega) hpj hq; omega
          rcases HBd.out.below hst.out with h0 | ⟨g, rfl, hgl, hcx⟩
          · rw [h0] at hjl
            simp at hjl
          obtain ⟨c0, c1⟩ := hcx j p hpj
          rcases HT5.out.below hst.out with h0 | ⟨tb, off, rfl, htl, htx⟩
          · rw [h0] at k1
            simp at k1
          obtain ⟨t, ht⟩ : ∃ t, L[p.1]? = some t := ⟨_, List.getElem?_eq_getElem k1⟩
          obtain ⟨d, hd⟩ : ∃ d, L[p.2]? = some d := ⟨_, List.getElem?_eq_getElem (by omega)⟩
          have htd : d.text = t.text := txt_eq hd ht k3
          have x1 := tk_textM (htx p.1 t ht)
          have x2 := tk_textM (htx p.2 d hd)
          rw [htd] at x2
          obtain ⟨pt, pd⟩ := p
          dsimp only at k1 k2 k3 k4 x1 x2 hz1 c0 c1 hnx
          have hbt := below_new wr (.cells #[.int .i64 (pt : Int), .int .i64 (pd : Int)] 40)
          have hnew := heap_alloc_new wr (.cells #[.int .i64 (pt : Int), .int .i64 (pd : Int)] 40)
          have HBt := hid (hst.out.trans (hbt.mono hst.out.size))
          have HOd := hid (fun W hW => by have := HO.out pd W hW; rwa [k4] at this)
          have HBg := hid (fun W (hW : Below w5.heap.size w5 W) => HBd.out.below hW)
          have HTg := hid (And.intro htl (And.intro x1 x2))
          have HNew := hid hnew
          have HHb := hid hbt
          generalize t.text = X at *
          clear hcx htx ht hd htd k3 k4 hst hlz hpj hnew hbt x1 x2
          go_wp2_with fail
          generalize wr.alloc (.cells #[.int .i64 (pt : Int), .int .i64 (pd : Int)] 40) = w6 at *
          have HC6 := hid (And.intro ((HHb.out.cell (p := ⟨tb, off + pt * 11 + 1, none⟩) HTg.out.1).trans HTg.out.2.1) ((HHb.out.cell (p := ⟨tb, off + pd * 11 + 1, none⟩) HTg.out.1).trans HTg.out.2.2))
          have y0 := Later.cell (bd_facts HNew.out).1
          have y1 := Later.cell (bd_facts HNew.out).2
          have z0 := Later.cell HC6.out.1
          have z1 := Later.cell HC6.out.2
          have HO6 := hid (fun p : Later w6 => HOd.out p.W (HBg.out _ (HBt.out.trans (p.hb.mono HBt.out.size))))
          generalize wr.heap.size = r at *
          have hnp : Nonempty (Later w6) := ⟨⟨w6, Below.refl _ _⟩⟩
          have l1 : decide ((pt : Int) ≤ lz) = false := decide_eq_false (by omega)
          have l2 : decide ((pt : Int) ≥ (L.length : Int)) = false := decide_eq_false (by omega)
          have l3 : decide ((pd : Int) < 0) = false := decide_eq_false (by omega)
          have l4 : decide ((pd : Int) > (pt : Int)) = false := decide_eq_false (by omega)
          have l7 : decide ((pt : Int) < (pd : Int)) = false := decide_eq_false (by omega)
          have l8 : decide ((L.length : Int) ≤ (pt : Int)) = false := decide_eq_false (by omega)
          have l9 : decide (pt < pd) = false := decide_eq_false (by omega)
          have la : decide (L.length ≤ pt) = false := decide_eq_false (by omega)
          have i0 : (0 : Int) ≤ (pt : Int) := by omega
          have i1 : (pt : Int) < (L.length : Int) := by omega
          have i2 : (0 : Int) ≤ (pd : Int) := by omega
          have i3 : (pd : Int) < (L.length : Int) := by omega
          have i4 : pd < L.length := by omega
          have l5 : (X.toList != X.toList) = false := bne_self_eq_false _
          have l6 : ((pd : Int) != (pd : Int)) = false := bne_self_eq_false _
          clear HC6 HNew HHb HTg HOd HO HM k2 hz1 c0 c1
          refine region_later (by kernel_rfl) (by kernel_rfl) ?_
          repeat (first | go_big_quiet_step ((go_at_call 11; exact Calls.later (HO6.out _))) | quiet_step ((go_at_call 11; exact Calls.later (HO6.out _))))
          refine wpQuiet_nil ?_
          rintro _ ⟨p, rfl⟩
          have HB7 := hid (HBt.out.trans (p.hb.mono HBt.out.size))
          go_wp2_with fail
          go_roundw
          case rel => exact ⟨(pt : Int), j + 1, rfl, by go_num, by omega, hnx.out, HB7⟩
          case measure => simp [intOf]; omega
        · have hjk : j = b.length := by omega
          subst hjk
          have hji : ¬ ((b.length : Int) < (b.length : Int)) := by omega
          have HBr := hid (HB5.out.trans (hst.out.mono HB5.out.size))
          clear hst
          go_wp2_with fail
          go_ret
          exact ⟨rfl, HBr.out⟩
end Go.Proofs.Ytkfbhknhjpmomaa
