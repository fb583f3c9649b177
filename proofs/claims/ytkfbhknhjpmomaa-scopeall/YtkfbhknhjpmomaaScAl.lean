/- Walk of ScopeAll. -/
import Derived.Test.YtkfbhknhjpmomaaScTu
import Derived.Test.YtkfbhknhjpmomaaLater
import Derived.BigQuiet
namespace Go.Proofs.Ytkfbhknhjpmomaa
open Go.RowKit Go.Shelf
theorem tk_cellsS {w : World} {b off : Nat} {x : Tk} {j : Nat} (h : ∀ (i : Nat) v, (encT x)[i]? = some v → w.cell? ⟨b, off + j * 11 + i, none⟩ = some v) :
    w.cell? ⟨b, off + j * 11, none⟩ = some (.int .i64 x.kind) ∧ w.cell? ⟨b, off + j * 11 + 1, none⟩ = some (.string x.text) ∧ w.cell? ⟨b, off + j * 11 + 2, none⟩ = some (.bool x.space) ∧ w.cell? ⟨b, off + j * 11 + 3, none⟩ = some (.bool x.first) ∧ w.cell? ⟨b, off + j * 11 + 4, none⟩ = some (.int .i64 x.file) ∧ w.cell? ⟨b, off + j * 11 + 5, none⟩ = some (.int .i64 x.lo) ∧ w.cell? ⟨b, off + j * 11 + 6, none⟩ = some (.int .i64 x.hi) ∧ w.cell? ⟨b, off + j * 11 + 7, none⟩ = some (.int .i64 x.line) ∧ w.cell? ⟨b, off + j * 11 + 8, none⟩ = some (.slice none 0 0) ∧ w.cell? ⟨b, off + j * 11 + 9, none⟩ = some (.slice none 0 0) ∧ w.cell? ⟨b, off + j * 11 + 10, none⟩ = some (.int .i64 0) :=
  ⟨h 0 _ rfl, h 1 _ rfl, h 2 _ rfl, h 3 _ rfl, h 4 _ rfl, h 5 _ rfl, h 6 _ rfl, h 7 _ rfl, h 8 _ rfl, h 9 _ rfl, h 10 _ rfl⟩
theorem tk_twoS {w : World} {b : Nat} {x0 x1 x2 x3 x4 x5 x6 x7 x8 x9 x10 : Value} {T : TypeId} (h : w.heap[b]? = some (.cells #[x0, x1, x2, x3, x4, x5, x6, x7, x8, x9, x10] T)) : w.cell? ⟨b, 0, none⟩ = some x0 ∧ w.cell? ⟨b, 1, none⟩ = some x1 := by
  simp [World.cell?, h]
set_option maxRecDepth 100000 in
set_option maxHeartbeats 4000000 in
theorem all_any (HR : RToks) (s : ByteArray) (w : World) : Calls Try.prog 5 #[.string s] w fun e w' => e = .returned (.bool true) ∧ Below w.heap.size w w' := by
  have HA := hid (aliveS_any HR w)
  have HT := hid (fun W => toksS_any HR s W)
  have hfew : (toksF 0 s.data.toList).1.length ≤ 6000 := Nat.le_trans (toks_small 0 s.data.toList).1 (by decide)
  have HP := hid (fun a c W hT => RParseT_any (la := a) (lc := c) (toks_full 0 s.data.toList) (toks_small 0 s.data.toList).2 W hT hfew)
  have HS := hid (fun a c n x W hp hT hx => Resolve_any (la := a) (lc := c) (n := n) (x := x) (toks_small 0 s.data.toList).2 W hT hfew hx (cv_wf (parsR_gd (toks_letsR 0 s.data.toList) hp).1) (by have := (parsR_gd (toks_letsR 0 s.data.toList) hp).2; omega))
  have HZ := hid (fun a c W hT => Resolve_any (la := a) (lc := c) (n := .mk 0 0 []) (x := zeroN) (toks_small 0 s.data.toList).2 W hT hfew ⟨rfl, rfl, KidsAt.nil⟩ (by rw [wfN_mk]; exact ⟨fun h => by omega, fun h => by omega, by rw [wfL]; trivial⟩) (by rw [zN_mk, zL_nil]; omega))
  have HM := hid (fun n b hp hr => madeB_of (L := (toksF 0 s.data.toList).1) (n := n) (b := b) (toks_letsR 0 s.data.toList) hp hr)
  have HF := hid (fun n b hp hr => Nat.le_trans (res_few (L := (toksF 0 s.data.toList).1) (n := n) (b := b) hr) (parsR_gd (toks_letsR 0 s.data.toList) hp).2)
  have HN := hid hfew
  have HQ : Hid (resR (toksF 0 s.data.toList).1 (.mk 0 0 []) = .ok []) := by
    show resR _ _ = _
    unfold resR
    rw [rsN_mk, if_neg (by omega), if_neg (by omega), if_neg (by omega), if_neg (by omega), if_neg (by omega), rsL_nil]
  unfold QPost aggN at HP
  unfold SPost aggN at HS HZ
  unfold ToksS at HT
  rw [HQ.out] at HZ
  dsimp only [zeroN] at HZ
  clear HR hfew HQ
  generalize (toksF 0 s.data.toList).1 = L at *
  go_enter Try.func5, Try.ntmps5
  go_wp2_with fail
  refine HA.out.mono ?_
  rintro e w0 ⟨rfl, hb0⟩
  have HB0 := hid hb0
  clear hb0 HA
  go_wp2_with fail
  refine (HT.out _).mono ?_
  rintro e w1 ⟨a, c, rfl, hT1, hb1, _⟩
  have HB1 := hid (HB0.out.trans (hb1.mono HB0.out.size))
  have HP1 := hid (HP.out a c w1 hT1)
  have HT1 := hid hT1
  clear hT1 hb1 HT HP HB0
  go_wp2_with fail
  cases hp : parsR L with
  | error y =>
    rw [hp] at HP1
    dsimp only [zeroN] at HP1
    refine HP1.out.mono ?_
    rintro e w2 ⟨hb2, hy0, rfl⟩
    have HB2 := hid (HB1.out.trans (hb2.mono HB1.out.size))
    obtain ⟨g1, g2, g3, g4⟩ := putNF_facts w2 ⟨0, 0, none, 0, 0⟩ y.1 (placeT L y.2).1 (placeT L y.2).2
    have HZ3 := hid (HZ.out a c (putNF w2 ⟨0, 0, none, 0, 0⟩ y.1 (placeT L y.2).1 (placeT L y.2).2) (HT1.out.below (hb2.trans (g1.mono hb2.size))))
    have HB3 := hid (HB2.out.trans (g1.mono HB2.out.size))
    have H4 := hid g4
    have hy1 : (y.1 == 0) = false := beq_eq_false_iff_ne.2 hy0
    have hy2 : (y.1 != 0) = true := by simp [bne, hy1]
    obtain ⟨⟨s0, s1, s2⟩, _⟩ := boxN_facts g3
    unfold putNF boxN at s0 s1 s2 HZ3 HB3 H4
    dsimp only at s0 s1 s2 HZ3 HB3 H4
    clear hb2 HP1 HB1 HB2 HT1 HZ HS g1 g2 g3 g4
    go_wp2_with fail
    refine HZ3.out.mono ?_
    rintro e w4 ⟨hb4, ba, bc, rfl, hrow⟩
    have HB4 := hid (HB3.out.trans (hb4.mono HB3.out.size))
    have HB5 := hid (HB4.out.trans ((below_new w4 (.cells #[.int .i64 0, .int .i64 (-1), .int .i64 0] 29)).mono HB4.out.size))
    have h5 := ((below_new w4 (.cells #[.int .i64 0, .int .i64 (-1), .int .i64 0] 29)).block _ (by have := hb4.size; have := lt_of_block H4.out; omega)).trans ((hb4.block _ (lt_of_block H4.out)).trans H4.out)
    obtain ⟨⟨q0, _, _⟩, _⟩ := scFlt h5
    clear hb4 hrow HZ3 HB3 s0 s1 s2 h5 HB4 H4
    go_wp2_with fail
    go_ret
    exact ⟨rfl, HB5.out⟩
  | ok n =>
    rw [hp] at HP1
    dsimp only at HP1
    refine HP1.out.mono ?_
    rintro e w2 ⟨hb2, x, rfl, hx⟩
    have HB2 := hid (HB1.out.trans (hb2.mono HB1.out.size))
    obtain ⟨xk, xt, xa, xn, xc⟩ := x
    obtain ⟨g1, g2, g3, g4⟩ := putNF_facts w2 ⟨xk, xt, xa, xn, xc⟩ 0 (-1) 0
    have HT3 := hid (HT1.out.below (hb2.trans (g1.mono hb2.size)))
    have HS3 := hid (HS.out a c n ⟨xk, xt, xa, xn, xc⟩ (putNF w2 ⟨xk, xt, xa, xn, xc⟩ 0 (-1) 0) hp HT3.out ((hx.mono fun b hb hlt => hlt).kept (fun b hb _ => g1.block b hb) |>.mono fun b hb hlt => hlt))
    have HB3 := hid (HB2.out.trans (g1.mono HB2.out.size))
    have H4 := hid g4
    obtain ⟨⟨s0, s1, s2⟩, _⟩ := boxN_facts g3
    unfold putNF boxN at s0 s1 s2 HS3 HB3 H4 HT3
    dsimp only at s0 s1 s2 HS3 HB3 H4 HT3
    clear hb2 hx HP1 HB1 HB2 HT1 HS HZ g1 g2 g3 g4
    go_wp2_with fail
    cases hr : resR L n with
    | error y =>
      rw [hr] at HS3
      dsimp only at HS3
      have hy1 : (y.1 == 0) = false := beq_eq_false_iff_ne.2 (res_ne hr)
      have hy2 : (y.1 != 0) = true := by simp [bne, hy1]
      refine HS3.out.mono ?_
      rintro e w4 ⟨hb4, rfl⟩
      have HB4 := hid (HB3.out.trans (hb4.mono HB3.out.size))
      have HB5 := hid (HB4.out.trans ((below_new w4 (.cells #[.int .i64 y.1, .int .i64 (placeT L y.2).1, .int .i64 (placeT L y.2).2] 29)).mono HB4.out.size))
      have h5 := ((below_new w4 (.cells #[.int .i64 y.1, .int .i64 (placeT L y.2).1, .int .i64 (placeT L y.2).2] 29)).block _ (by have := hb4.size; have := lt_of_block H4.out; omega)).trans ((hb4.block _ (lt_of_block H4.out)).trans H4.out)
      obtain ⟨⟨q0, _, _⟩, _⟩ := scFlt h5
      clear hb4 HS3 HB3 s0 s1 s2 h5 HB4 H4
      go_wp2_with fail
      go_ret
      exact ⟨rfl, HB5.out⟩
    | ok b =>
      rw [hr] at HS3
      dsimp only at HS3
      have hM := HM.out n b hp hr
      have hbf := HF.out n b hp hr
      have HM := hid hM
      have hbl : b.length ≤ 1000000 := by have := HN.out; omega
      refine HS3.out.mono ?_
      rintro e w4 ⟨hb4, ba, bc, rfl, hrow⟩
      have HB4 := hid (HB3.out.trans (hb4.mono HB3.out.size))
      have hb45 := below_new w4 (.cells #[.int .i64 0, .int .i64 (-1), .int .i64 0] 29)
      have HB5 := hid (HB4.out.trans (hb45.mono HB4.out.size))
      have h5 := (hb45.block _ (by have := hb4.size; have := lt_of_block H4.out; omega)).trans ((hb4.block _ (lt_of_block H4.out)).trans H4.out)
      have HBd := hid ((BdAt.of hrow).below hb45)
      have HT5 := hid (HT3.out.below (hb4.trans (hb45.mono hb4.size)))
      obtain ⟨⟨q0, _, _⟩, _⟩ := scFlt h5
      have HO := hid (fun (d : Nat) W hW => Of_any ba bc b (d : Int) W hW hM.rise hbl)
      clear hb4 HS3 HB3 s0 s1 s2 h5 HB4 H4 hrow hb45 HT3 hM hbf HF
      go_wp2_with fail
      generalize w4.alloc (.cells #[.int .i64 0, .int .i64 (-1), .int .i64 0] 29) = w5 at *
      clear q0
      go_loopw [43] (fun v wr => ∃ (j : Nat), v = .int .i64 (j : Int) ∧ j ≤ L.length ∧ Hid (Below w5.heap.size w5 wr)) (fun v _ => L.length - (intOf v).toNat)
      case atStart => exact ⟨0, rfl, Nat.zero_le _, Below.refl _ _⟩
      case round =>
        obtain ⟨j, rfl, hj, hst⟩ := hrel
        by_cases hjl : j < L.length
        · have hji : (j : Int) < (L.length : Int) := by omega
          have hj0 : (0 : Int) ≤ (j : Int) := by omega
          have hw2 : IntKind.i64.wrap ((j : Int) + 1) = (j : Int) + 1 := by have := HN.out; rw [IntKind.wrap_i64]; omega
          have hal := HM.out.all j hjl
          obtain ⟨t, ht⟩ : ∃ t, L[j]? = some t := ⟨_, List.getElem?_eq_getElem hjl⟩
          rcases HT5.out.below hst.out with h0 | ⟨tb, off, rfl, htl, htx⟩
          · rw [h0] at hjl
            simp at hjl
          obtain ⟨c0, c1, c2, c3, c4, c5, c6, c7, c8, c9, c10⟩ := tk_cellsS (htx j t ht)
          have hbt := below_new wr (.cells #[.int .i64 t.kind, .string t.text, .bool t.space, .bool t.first, .int .i64 t.file, .int .i64 t.lo, .int .i64 t.hi, .int .i64 t.line, .slice none 0 0, .slice none 0 0, .int .i64 0] 44)
          have hnew := heap_alloc_new wr (.cells #[.int .i64 t.kind, .string t.text, .bool t.space, .bool t.first, .int .i64 t.file, .int .i64 t.lo, .int .i64 t.hi, .int .i64 t.line, .slice none 0 0, .slice none 0 0, .int .i64 0] 44)
          have HBt := hid (hst.out.trans (hbt.mono hst.out.size))
          have HBg := hid (fun W (hW : Below w5.heap.size w5 W) => HBd.out.below hW)
          have HNew := hid (tk_twoS hnew)
          have hrl : wr.heap.size < (wr.alloc (.cells #[.int .i64 t.kind, .string t.text, .bool t.space, .bool t.first, .int .i64 t.file, .int .i64 t.lo, .int .i64 t.hi, .int .i64 t.line, .slice none 0 0, .slice none 0 0, .int .i64 0] 44)).heap.size := by simp
          have hnm : nameT L j = (decide (t.kind = 1) && !keyW t.text.data.toList) := by unfold nameT; rw [ht]
          rw [hnm] at hal
          have HKy := hid (fun W => RKey_any t.text W)
          have HOj := hid (fun W hW => HO.out j W hW)
          have HAl := hid hal
          generalize ofR b (j : Int) = o at *
          generalize t.kind = tk at *
          generalize t.text = X at *
          generalize t.space = x2 at *
          generalize t.first = x3 at *
          generalize t.file = x4 at *
          generalize t.lo = x5 at *
          generalize t.hi = x6 at *
          generalize t.line = x7 at *
          clear htx ht hst hnew hbt hnm hal
          go_wp2_with fail
          generalize wr.alloc (.cells #[.int .i64 tk, .string X, .bool x2, .bool x3, .int .i64 x4, .int .i64 x5, .int .i64 x6, .int .i64 x7, .slice none 0 0, .slice none 0 0, .int .i64 0] 44) = w6 at *
          generalize wr.heap.size = r at *
          clear c0 c1 c2 c3 c4 c5 c6 c7 c8 c9 c10
          have HO6 := hid (fun p : Later w6 => HOj.out p.W (HBg.out _ (HBt.out.trans (p.hb.mono HBt.out.size))))
          have n0 := Later.cell HNew.out.1
          have n1 := Later.cell HNew.out.2
          have hnp : Nonempty (Later w6) := ⟨⟨w6, Below.refl _ _⟩⟩
          by_cases k1 : tk = 1
          · subst k1
            cases hky : keyW X.data.toList with
            | true =>
              rw [hky] at HKy HAl
              have ho : ¬ (0 ≤ o) := fun h => by have := HAl.out.1 h; simp at this
              have ho1 : decide (o ≥ 0) = false := decide_eq_false ho
              have ho2 : decide (0 ≤ o) = false := decide_eq_false ho
              clear HAl HNew HOj
              refine region_later (by kernel_rfl) (by kernel_rfl) ?_
              repeat (first | go_big_quiet_step (first | (go_at_call 11; exact Calls.later (HO6.out _)) | (go_at_call 14; exact Calls.later (HKy.out _))) | quiet_step (first | (go_at_call 11; exact Calls.later (HO6.out _)) | (go_at_call 14; exact Calls.later (HKy.out _))))
              refine wpQuiet_nil ?_
              rintro _ ⟨p, rfl⟩
              have HB7 := hid (HBt.out.trans (p.hb.mono HBt.out.size))
              go_wp2_with fail
              go_roundw
              case rel => exact ⟨j + 1, by go_num, by omega, HB7⟩
              case measure => simp [intOf]; omega
            | false =>
              rw [hky] at HKy HAl
              have ho : 0 ≤ o := HAl.out.2 (by simp)
              have ho1 : decide (o ≥ 0) = true := decide_eq_true ho
              have ho2 : decide (0 ≤ o) = true := decide_eq_true ho
              clear HAl HNew HOj
              refine region_later (by kernel_rfl) (by kernel_rfl) ?_
              repeat (first | go_big_quiet_step (first | (go_at_call 11; exact Calls.later (HO6.out _)) | (go_at_call 14; exact Calls.later (HKy.out _))) | quiet_step (first | (go_at_call 11; exact Calls.later (HO6.out _)) | (go_at_call 14; exact Calls.later (HKy.out _))))
              refine wpQuiet_nil ?_
              rintro _ ⟨p, rfl⟩
              have HB7 := hid (HBt.out.trans (p.hb.mono HBt.out.size))
              go_wp2_with fail
              go_roundw
              case rel => exact ⟨j + 1, by go_num, by omega, HB7⟩
              case measure => simp [intOf]; omega
          · have k1' : (tk == 1) = false := beq_eq_false_iff_ne.2 k1
            have ho : ¬ (0 ≤ o) := fun h => by have := HAl.out.1 h; simp [k1] at this
            have ho1 : decide (o ≥ 0) = false := decide_eq_false ho
            have ho2 : decide (0 ≤ o) = false := decide_eq_false ho
            clear HAl HNew HOj
            refine region_later (by kernel_rfl) (by kernel_rfl) ?_
            repeat (first | go_big_quiet_step (first | (go_at_call 11; exact Calls.later (HO6.out _)) | (go_at_call 14; exact Calls.later (HKy.out _))) | quiet_step (first | (go_at_call 11; exact Calls.later (HO6.out _)) | (go_at_call 14; exact Calls.later (HKy.out _))))
            refine wpQuiet_nil ?_
            rintro _ ⟨p, rfl⟩
            have HB7 := hid (HBt.out.trans (p.hb.mono HBt.out.size))
            go_wp2_with fail
            go_roundw
            case rel => exact ⟨j + 1, by go_num, by omega, HB7⟩
            case measure => simp [intOf]; omega
        · have hjk : j = L.length := by omega
          subst hjk
          have hji : ¬ ((L.length : Int) < (L.length : Int)) := by omega
          have HBr := hid (HB5.out.trans (hst.out.mono HB5.out.size))
          clear hst
          go_wp2_with fail
          go_ret
          exact ⟨rfl, HBr.out⟩
end Go.Proofs.Ytkfbhknhjpmomaa
