/- Walk of the document's own Stmt. · Statements and blocks, at all depths. -/
import Derived.Test.YtkfbhknhjpmomaaScIA
import Derived.Test.YtkfbhknhjpmomaaScMA
namespace Go.Proofs.Ytkfbhknhjpmomaa
section
open Go.RowKit Go.Shelf
section
variable {r : Nat} {la : Option Addr} {lc : Nat} {L : List Tk} {w w' : World}
set_option maxRecDepth 100000 in
set_option maxHeartbeats 4000000 in
theorem sok_step (hF : ∀ t ∈ L, t.text.size ≠ 0) (hs : ∀ t ∈ L, t.text.size ≤ 3000) (m : Nat) (hm : m < 30) (hS : SOk r la lc L m) (hB : BOk r la lc L m) : SOk r la lc L (m + 1) := by
  intro d i en ev w hd h hi hel hnil hev
  have hrw := h.lt
  have HUn := hid h.under
  have hfew := h.few
  have hbox := h.box
  have hks : ksX L m + 8 = ksX L (m + 1) := by unfold ksX; omega
  have hkl : ksX L m ≤ 100000 := by unfold ksX; omega
  have hkL : L.length + 30 ≤ ksX L m := by unfold ksX; omega
  have hkX : kbX L m + 4 ≤ ksX L m := by unfold ksX kbX; omega
  have hB0 := (Below.refl w.heap.size w).alloc (Nat.le_refl _) (boxN zeroN)
  have HE := hid (enter_ok _ (h.below hB0) (show d < 30 by omega) i)
  have HN := hid (heap_alloc_new w (boxN zeroN))
  have HB0 := hid hB0
  have HEn : Hid (∀ W, Kept (· = r) w W → EnAt W (.map ev) en) := fun W hW => hev.kept hbox hW
  have HNil := hid hnil
  generalize hR : stR L (m + 1) 0 en i = R
  have HR := hid hR
  clear hB0 h hev hbox hnil hR
  go_enter Try.func60, Try.ntmps60
  go_wp2_with fail
  refine HE.out.mono ?_
  rintro e1 w1 ⟨rfl, hp1, hk1⟩
  have HW := hid (pword_any w1 hp1 i)
  have hb2 := below_new w1 (boxN zeroN)
  have HP1 := hid (hp1.below hb2)
  have HK1 := hid (((kept_below (X := (· = r)) HB0.out).trans hk1).trans (kept_below hb2))
  have hz1 : w.heap.size < w1.heap.size := by have := hk1.size; have := lt_of_block HN.out; omega
  have HH1 := hid ((hb2.block _ hz1).trans ((hk1.block _ (lt_of_block HN.out) (by omega)).trans HN.out))
  have HM1 := hid (heap_alloc_new w1 (boxN zeroN))
  have hs1 : w1.heap.size < (w1.alloc (boxN zeroN)).heap.size := by simp
  clear hp1 hk1 hb2 HE HN HB0
  go_upto_block 0 with (go_at_call 31; refine HW.out.mono ?_; rintro e2 w2 ⟨rfl, rfl⟩)
  change Code.wp _ _ _ _ (w2.alloc (boxN zeroN))
  generalize w2.alloc (boxN zeroN) = w3 at HP1 HK1 HH1 HM1 hs1 ⊢
  generalize w2.heap.size = B at HM1 hz1 hs1 ⊢
  clear HW
  have h1e := wrd_lit L i [123]
  have h2e := wrd_lit L i wIf
  have h3e := wrd_lit L i wWhile
  have h4e := wrd_lit L i wReturn
  have h5e := wrd_lit L i wTypedef
  have h6e := wrd_lit L i [59]
  have h6n := wrd_lin L i [59]
  generalize wrdB L i = wb at h1e h2e h3e h4e h5e h6e h6n ⊢
  go_cut [1, 2] (fun a b wx => ∃ (k : Nat) (e' : Option Nat) (x : Nv), a = .map e' ∧ b = .int .i64 (k : Int) ∧ Hid (SmSt r la lc L (d + 1) (ksX L m + 4) R w B k e' x wx))
  case first =>
    by_cases h1 : wordT L i = [123]
    · rw [decide_eq_true h1] at h1e
      have HB1 := hid (hB (d + 1) i en ev w3 (by omega) HP1.out hi hel HNil.out (HEn.out _ HK1.out))
      have HR1 : Hid (R = match stR L m 1 en i with
        | .error x => .error x
        | .ok (n, k, _) => .ok (n, k, en)) := by show _ = _; rw [← HR.out]; simp only [stR]; rw [if_pos h1]; cases stR L m 1 en i <;> rfl
      clear h2e h3e h4e h5e h6e h6n h1
      go_wp2_with fail
      refine HB1.out.mono ?_
      rintro e5 w5 hq5
      obtain ⟨v5, k5, rfl, hk5, hc5⟩ := hq5.any
      have HS5 : Hid (SmSt r la lc L (d + 1) (ksX L m + 4) R w B k5 ev v5 (putN w5 B v5)) := by
        refine sm_node hrw HUn.out hz1 hs1 HK1.out HH1.out HM1.out hk5 ?_
        have hr := HR1.out
        have hf := (stR_facts hF m).2 en i
        generalize stR L m 1 en i = R1 at hr hc5 hf
        rcases hc5 with ⟨n, h1, h2, h3, h4⟩ | ⟨y, h1, h2, h3⟩
        · rcases R1 with y | ⟨n1, k1, e1⟩
          · cases h1
          · cases h1
            have := (hf _ _ _ rfl).1
            exact .inl ⟨n, en, hr, h2, h3, h4, by omega, HEn.out _ (HK1.out.trans hk5)⟩
        · rcases R1 with y1 | ⟨n1, k1, e1⟩
          · cases h1
            exact .inr ⟨y, hr, by omega, h3⟩
          · cases h1
      have hB5 := (hk5.block _ hs1 (by omega)).trans HM1.out
      obtain ⟨⟨z0, z1, z2⟩, z3, z4, z5⟩ := boxN_facts hB5
      have hB5l := lt_of_block hB5
      clear hk5 hc5 hq5
      unfold aggN
      go_wp2_with fail
      go_meet
      exact ⟨k5, ev, v5, rfl, rfl, HS5.out⟩
    · rw [decide_eq_false h1] at h1e
      by_cases h23 : wordT L i = wIf ∨ wordT L i = wWhile
      · rcases id h23 with h2 | h2
        · have h3 : wordT L i ≠ wWhile := fun e => by rw [h2] at e; exact absurd e (by decide)
          rw [decide_eq_true h2] at h2e
          rw [decide_eq_false h3] at h3e
          have HR2 := hid (wh_is L m en i h1 h23)
          rw [HR.out, decide_eq_true h2] at HR2
          have hwb : wb.data.toList = [105, 102] := by rw [← toList_data]; simpa using h2e
          have hws : wb.size ≤ maxLen := by
            have : wb.data.toList.length = wb.size := by simp
            rw [hwb] at this
            simp at this
            unfold maxLen
            omega
          have HWB := hid hwb
          have hlk : scLook [([119, 104, 105, 108, 101], 7), ([105, 102], 6)] wb.data.toList = 6 := by rw [hwb]; rfl
          have hil : i + 1 ≤ L.length := wrd_lt h2 (by simp)
          obtain ⟨⟨z0, z1, z2⟩, z3, z4, z5⟩ := boxN_facts HM1.out
          have hB3 := (Below.refl w3.heap.size w3).alloc (Nat.le_refl _) (.map #[] 0)
          have HOm := hid (World.ownsMap_made (H := Unit) w3 Try.prog 9 (plainElem Try.prog 3))
          have hmm := @run_makeMap Try.prog
          have HLk := hid hlk
          clear h4e h5e h6e h6n h1 h23 h2 h3 hwb hlk
          have HB3 := hid hB3
          clear hB3
          go_upto_region 15 with fail
          refine sc_ins (G := fun r => Oper.upon _ _ _ _ _ r) _ HOm.out ScTold.none (by omega) (by decide) (by unfold ScI; decide) ?_
          intro wm1 D1 hO1 hL1 hg1
          have HO1 := hid hO1
          have HL1 := hid hL1
          have HB1 := hid (HB3.out.grown hg1 HB3.out.size (fun k hk => by cases hk; exact Nat.le_refl _))
          clear hO1 hL1 hg1 HOm HB3 hmm
          go_upto_region 15 with fail
          refine sc_ins (G := fun r => Oper.upon _ _ _ _ _ r) _ HO1.out HL1.out (by omega) (by decide) (by unfold ScI; decide) ?_
          intro wm2 D2 hO2 hL2 hg2
          have hlook := sc_look wb hO2 hL2 hws
          rw [HLk.out] at hlook
          have hb2 := HB1.out.grown hg2 HB1.out.size (fun k hk => by cases hk; exact Nat.le_refl _)
          have HB2 := hid hb2
          have hM2 := (hb2.block _ hs1).trans HM1.out
          obtain ⟨⟨z0, z1, z2⟩, z3, z4, z5⟩ := boxN_facts hM2
          have hM2l := lt_of_block hM2
          have HM5 := hid (putN_block (⟨6, -1, none, 0, 0⟩ : Nv) hM2)
          have HP5 := hid (px_put (w' := w) (B := B) (HP1.out.below hb2) (by omega) hrw HUn.out ⟨6, -1, none, 0, 0⟩)
          have HK5 := hid (putN_kept (HK1.out.trans (kept_below hb2)) (B := B) (by omega) ⟨6, -1, none, 0, 0⟩)
          have HH5 := hid ((putN_other wm2 B ⟨6, -1, none, 0, 0⟩ w.heap.size (by omega)).trans ((hb2.block _ (lt_of_block HH1.out)).trans HH1.out))
          clear hO2 hL2 hg2 HO1 HL1 HB1 hb2 hM2
          go_upto_region 15 with fail
          change Code.wp _ _ _ _ (putN wm2 B ⟨6, -1, none, 0, 0⟩)
          clear z0 z1 z2 z3 z4 z5 hlook HLk HP1 HK1 HH1 HM1 HB2 hws
          generalize putN wm2 B ⟨6, -1, none, 0, 0⟩ = w5 at HM5 HP5 HK5 HH5 ⊢
          have hs5 := lt_of_block HM5.out
          have HNd := hid (wa_need (la := la) (lc := lc) (L := L) HP5.out (i := i) (by omega))
          have hwk : IntKind.i64.wrap ((i : Int) + 1) = ((i + 1 : Nat) : Int) := by rw [IntKind.wrap_i64]; omega
          go_upto_region 16 with (go_at_call 36; refine HNd.out.mono ?_; rintro e6 w6 ⟨rfl, hwa6, hk6⟩)
          have HXc := hid (wa_expr (ev := ev) (d := d + 1) (m := m) (by omega) hwa6 (by unfold kbX; omega))
          have HK6 := hid hk6
          clear hwa6 hk6 HNd HP5 hwk
          go_upto_region 17 with (go_at_call 57; refine HXc.out.mono ?_; rintro e9 w9 ⟨v9, k9, rfl, hk9, hx9⟩; unfold aggN)
          have hb9 := below_new w9 (boxN v9)
          have hz6 := HK6.out.size
          have hz9 := hk9.size
          have HK9 := hid ((HK6.out.trans hk9).trans (kept_below hb9))
          have HX9 := hid (WxSt.below hx9 hb9)
          have HBx := hid (heap_alloc_new w9 (boxN v9))
          have hXB : w9.heap.size < (w9.alloc (boxN v9)).heap.size := by simp
          have hrX : r < w9.heap.size := by omega
          change Code.wp _ _ _ _ (w9.alloc (boxN v9))
          generalize w9.alloc (boxN v9) = w10 at HK9 HX9 HBx hXB ⊢
          generalize w9.heap.size = X9 at HBx hXB hz9 hrX ⊢
          clear hk9 hx9 hb9 HXc
          have HNd := hid (wx_need (m := m) (i := i) HX9.out (by unfold kbX; omega) (by unfold kbX; omega))
          go_upto_region 18 with (go_at_call 36; refine HNd.out.mono ?_; rintro e11 w11 ⟨rfl, hk11, hy11⟩)
          have hz11 := hk11.size
          have HKa := hid (HK9.out.trans hk11)
          have hG9 := (grow_nil (base := w.heap.size) (S := fun b => b = w.heap.size ∨ b = B) HM5.out).kept HKa.out (by omega) (fun b hb => by omega)
          have hb := below_new w11 (.cells (cellsN [v9]).toArray 26)
          have HBb := hid hb
          have HRow := hid (hG9.below hb).row
          have hX11 := (hk11.block _ hXB (by omega)).trans HBx.out
          have HSrc := hid (row_cells (new_row w11 [v9] (by simp)))
          obtain ⟨⟨x0, x1, x2⟩, x3, x4, x5⟩ := boxN_facts hX11
          obtain ⟨⟨y0, y1, y2⟩, y3, y4, y5⟩ := boxN_facts hG9.box
          have hB9l := lt_of_block hG9.box
          have hX9l := lt_of_block hX11
          have hBX : B ≠ X9 := by omega
          have hXB2 : X9 ≠ B := by omega
          have HC9 := hid hy11
          have hwb : w.heap.size ≤ (w11.alloc (.cells (cellsN [v9]).toArray 26)).heap.size := by have := hb.size; omega
          obtain ⟨i0, hi0, hz0, hzz1, hzz2⟩ := info_parts info_node
          clear hk11 hy11 hb hG9 hX11 HNd HK9 HX9 HBx
          go_upto_region 19 with (at_builtin; refine wpList_append_own_at _ rfl _ _ 24 rfl w.heap.size 26 i0 _ 3 40 Try.underlying24 hi0 hz0 hzz1 hzz2 rfl (by decide) _ _ _ rfl HRow.out ⟨w11.heap.size, 0, none⟩ 1 1 (cellsN [v9]) rfl (cellsN_length _) HSrc.out (cellsN_one_cell _) (by unfold maxLen; simp) (by simp) hwb ?_; intro v' w7 hown7 hg7 _ hob7; obtain ⟨a1, c1, hv7, hB7, hW7⟩ := wh_first (b := true) (kd := 6) (d := d + 1) (K := ksX L m + 2) (m := m) (i := i) (k := k9 + 1) hrw HUn.out hz1 HK5.out HH5.out HM5.out HR2.out hel HKa.out HBb.out hown7 hg7 hob7 rfl (by rcases HC9.out with ⟨n, q1, q2, q3, q4, q5⟩ | ⟨y, q1, q2, q3⟩; exact .inl ⟨n, q1, q2.mono (fun b hb _ => by omega), q3, q4, q5⟩; exact .inr ⟨y, q1, q2, by omega⟩); subst hv7; obtain ⟨⟨u0, u1, u2⟩, u3, u4, u5⟩ := boxN_facts hB7; have hB7l := lt_of_block hB7; have HWh := hid hW7; clear hown7 hg7 hob7 hB7 hW7 x0 x1 x2 x3 x4 x5 y0 y1 y2 y3 y4 y5)
          change Code.wp _ _ _ _ (w7.setCell ⟨B, 2, none⟩ (.slice a1 1 c1))
          clear u0 u1 u2 u3 u4 u5
          generalize w7.setCell ⟨B, 2, none⟩ (.slice a1 1 c1) = w8 at HWh ⊢
          clear HKa HBb HRow HSrc HC9 HR2 HM5 HK5 HH5 hB7l hB9l hX9l
          go_wp2_with fail
          go_loopg [2] 2 (fun g x wr => ∃ k : Nat, x = .int .i64 (k : Int) ∧ Hid (WhSt r la lc L m en true 6 (d + 1) (ksX L m + 2) R w B g k wr))
          case atStart => exact ⟨k9 + 1, by go_num, HWh.out⟩
          case round =>
            obtain ⟨k, rfl, HS⟩ := hrel
            obtain ⟨hK, hH, nvs, a, c, hG, hcase⟩ := HS.out
            clear HS HWh
            rcases hcase with ⟨ks, hRw, hN, hp, hkL2, hek, hng, hg1⟩ | ⟨y, hy, ⟨hy0, d0, hp⟩, hkK⟩
            · obtain ⟨g, rfl⟩ : ∃ g, gk = g + 1 := ⟨gk - 1, by omega⟩
              have HO := hid (pok_any wr hp)
              have HSx := hid (hS (d + 1) k en ev wr (by omega) hp hkL2 hek HNil.out (HEn.out _ hK))
              have HKq := hid hK
              have HHq := hid hH
              have HG := hid hG
              have HNs := hid hN
              have HRw := hid hRw
              have hHl := lt_of_block hH
              have hBl := lt_of_block hG.box
              clear hp hK hH hG hN hRw
              go_wp2_with fail
              refine HO.out.mono ?_
              rintro e3 w6 ⟨rfl, rfl⟩
              go_wp2_with fail
              refine HSx.out.mono ?_
              rintro e9 w9 hq9
              obtain ⟨v9, k9, ev9, rfl, hk9, hc9⟩ := hq9.any
              have hz9 := hk9.size
              have hb1 := below_new w9 (boxN v9)
              have hs2 : (w9.alloc (boxN v9)).heap.size = w9.heap.size + 1 := by simp
              have hb2 := below_new (w9.alloc (boxN v9)) (.cells (cellsN [v9]).toArray 26)
              have hb : Below w9.heap.size w9 ((w9.alloc (boxN v9)).alloc (.cells (cellsN [v9]).toArray 26)) := hb1.trans (hb2.mono hb1.size)
              have HBb := hid hb
              have hG9 := HG.out.kept hk9 (by omega) (fun b hb => by omega)
              have HRow := hid (hG9.below hb).row
              have hsrc := row_cells (new_row (w9.alloc (boxN v9)) [v9] (by simp))
              rw [hs2] at hsrc
              have HSrc := hid hsrc
              obtain ⟨⟨y0, y1, y2⟩, y3, y4, y5⟩ := boxN_facts hG9.box
              have hB9l := lt_of_block hG9.box
              have HC9 := hid hc9
              have HK9 := hid hk9
              have hwb : w.heap.size ≤ ((w9.alloc (boxN v9)).alloc (.cells (cellsN [v9]).toArray 26)).heap.size := by have := hb.size; omega
              have hnl3 : nvs.length ≤ 6000 := by omega
              clear hk9 hc9 hq9 hb1 hb2 hb hG9 hsrc hs2
              unfold aggN
              go_upto_region 22 with (at_builtin; refine wpList_append_own_at _ rfl _ _ 24 rfl w.heap.size 26 i0 _ 3 40 Try.underlying24 hi0 hz0 hzz1 hzz2 rfl (by decide) _ _ _ rfl HRow.out ⟨w9.heap.size + 1, 0, none⟩ 1 1 (cellsN [v9]) rfl (cellsN_length _) HSrc.out (cellsN_one_cell _) (by unfold maxLen; omega) (by omega) hwb ?_; intro v' w8 hown7 hg7 _ hob7; obtain ⟨a1, c1, hv7, hB7, hW7⟩ := wh_next (b := true) (kd := 6) (d := d + 1) (K := ksX L m) (m := m) hF hrw HUn.out hz1 rfl HKq.out HHq.out HG.out HRw.out HNs.out hek (by omega) HK9.out HBb.out hown7 hg7 hob7 (by simp) (by rcases HC9.out with ⟨n, e2, q1, q2, q3, q4, q5, q6⟩ | ⟨y, q1, q2, q3⟩; exact .inl ⟨n, e2, q1, q2, q3, q4⟩; exact .inr ⟨y, q1, q2, q3⟩); rw [show (nvs ++ [v9]).length = nvs.length + 1 by simp] at hv7; subst hv7; obtain ⟨⟨u0, u1, u2⟩, u3, u4, u5⟩ := boxN_facts hB7; have hB7l := lt_of_block hB7; have HWe := hid hW7; clear hown7 hg7 hob7 hB7 hW7 y0 y1 y2 y3 y4 y5)
              change Code.wp _ _ _ _ (w8.setCell ⟨B, 2, none⟩ (.slice a1 (nvs.length + 1) c1))
              clear u0 u1 u2 u3 u4 u5
              generalize w8.setCell ⟨B, 2, none⟩ (.slice a1 (nvs.length + 1) c1) = w10 at HWe ⊢
              have hlen : (nvs ++ [v9]).length = nvs.length + 1 := by simp
              generalize nvs ++ [v9] = nvs2 at HWe hlen
              have HSm := hid (fun (hn : ¬ (true = true ∧ nvs2.length ≤ 2 ∧ wordT L k9 = wElse)) => HWe.out.end HEn.out hn (ksX L m + 4) (by omega))
              have hbx := HWe.out.2.2.1.box
              by_cases hl2 : nvs2.length ≤ 2
              · have hgt : ¬ (2 : Int) < (nvs2.length : Int) := by omega
                have hgd : decide ((2 : Int) < (nvs2.length : Int)) = false := decide_eq_false hgt
                obtain ⟨qe, qf, qa, qd, hpx⟩ := HWe.out.px
                have HW := hid (pword_any w10 hpx k9)
                have hwe := wrd_lit L k9 wElse
                have hwn := wrd_lin L k9 wElse
                obtain ⟨⟨u0, u1, u2⟩, u3, u4, u5⟩ := boxN_facts hbx
                have hB10 := lt_of_block hbx
                clear hpx hbx
                by_cases he : wordT L k9 = wElse
                · have HMo := hid (HWe.out.more ⟨rfl, hl2, he⟩ (ksX L m + 2) (by omega))
                  have hkb : k9 < L.length := wrd_lt he (by simp)
                  rw [decide_eq_true he] at hwe hwn
                  rw [Bool.not_true] at hwn
                  generalize wrdB L k9 = wj at HW hwe hwn
                  have hwk : IntKind.i64.wrap ((k9 : Int) + 1) = ((k9 + 1 : Nat) : Int) := by rw [IntKind.wrap_i64]; omega
                  clear he HSm HWe hl2
                  go_wp2_with fail
                  refine HW.out.mono ?_
                  rintro e7 wz ⟨rfl, rfl⟩
                  go_wp2_with fail
                  go_roundg g
                  case measure => omega
                  case rel => exact ⟨k9 + 1, by go_num, HMo.out⟩
                · have HSq := hid (HSm.out (fun h => he h.2.2))
                  rw [decide_eq_false he] at hwe hwn
                  rw [Bool.not_false] at hwn
                  generalize wrdB L k9 = wj at HW hwe hwn
                  clear he HSm HWe hl2
                  go_wp2_with fail
                  refine HW.out.mono ?_
                  rintro e7 wz ⟨rfl, rfl⟩
                  go_wp2_with fail
                  go_meet
                  exact ⟨k9, ev, _, rfl, rfl, HSq.out⟩
              · have HSq := hid (HSm.out (fun h => hl2 h.2.1))
                have hgt : (2 : Int) < (nvs2.length : Int) := by omega
                have hgd : decide ((2 : Int) < (nvs2.length : Int)) = true := decide_eq_true hgt
                obtain ⟨⟨u0, u1, u2⟩, u3, u4, u5⟩ := boxN_facts hbx
                have hB10 := lt_of_block hbx
                clear HSm HWe hl2 hbx
                go_wp2_with fail
                go_meet
                exact ⟨k9, ev, _, rfl, rfl, HSq.out⟩
            · have HO := hid (pok_any wr hp)
              rw [show (y.1 == 0) = false by simpa using hy0] at HO
              have HSm : Hid (SmSt r la lc L (d + 1) (ksX L m + 4) R w B k ev ⟨6, -1, a, nvs.length, c⟩ wr) := WhSt.bad hK hH hG hy ⟨hy0, d0, hp⟩ (by omega)
              clear hK hH hG hy hp hy0
              go_wp2_with fail
              refine HO.out.mono ?_
              rintro e3 w6 ⟨rfl, rfl⟩
              go_wp2_with fail
              go_meet
              exact ⟨k, ev, _, rfl, rfl, HSm.out⟩
        · have h3 : wordT L i ≠ wIf := fun e => by rw [h2] at e; exact absurd e (by decide)
          rw [decide_eq_true h2] at h3e
          rw [decide_eq_false h3] at h2e
          have HR2 := hid (wh_is L m en i h1 h23)
          rw [HR.out, decide_eq_false h3] at HR2
          have hwb : wb.data.toList = [119, 104, 105, 108, 101] := by rw [← toList_data]; simpa using h3e
          have hws : wb.size ≤ maxLen := by
            have : wb.data.toList.length = wb.size := by simp
            rw [hwb] at this
            simp at this
            unfold maxLen
            omega
          have HWB := hid hwb
          have hlk : scLook [([119, 104, 105, 108, 101], 7), ([105, 102], 6)] wb.data.toList = 7 := by rw [hwb]; rfl
          have hil : i + 1 ≤ L.length := wrd_lt h2 (by simp)
          obtain ⟨⟨z0, z1, z2⟩, z3, z4, z5⟩ := boxN_facts HM1.out
          have hB3 := (Below.refl w3.heap.size w3).alloc (Nat.le_refl _) (.map #[] 0)
          have HOm := hid (World.ownsMap_made (H := Unit) w3 Try.prog 9 (plainElem Try.prog 3))
          have hmm := @run_makeMap Try.prog
          have HLk := hid hlk
          clear h4e h5e h6e h6n h1 h23 h2 h3 hwb hlk
          have HB3 := hid hB3
          clear hB3
          go_upto_region 15 with fail
          refine sc_ins (G := fun r => Oper.upon _ _ _ _ _ r) _ HOm.out ScTold.none (by omega) (by decide) (by unfold ScI; decide) ?_
          intro wm1 D1 hO1 hL1 hg1
          have HO1 := hid hO1
          have HL1 := hid hL1
          have HB1 := hid (HB3.out.grown hg1 HB3.out.size (fun k hk => by cases hk; exact Nat.le_refl _))
          clear hO1 hL1 hg1 HOm HB3 hmm
          go_upto_region 15 with fail
          refine sc_ins (G := fun r => Oper.upon _ _ _ _ _ r) _ HO1.out HL1.out (by omega) (by decide) (by unfold ScI; decide) ?_
          intro wm2 D2 hO2 hL2 hg2
          have hlook := sc_look wb hO2 hL2 hws
          rw [HLk.out] at hlook
          have hb2 := HB1.out.grown hg2 HB1.out.size (fun k hk => by cases hk; exact Nat.le_refl _)
          have HB2 := hid hb2
          have hM2 := (hb2.block _ hs1).trans HM1.out
          obtain ⟨⟨z0, z1, z2⟩, z3, z4, z5⟩ := boxN_facts hM2
          have hM2l := lt_of_block hM2
          have HM5 := hid (putN_block (⟨7, -1, none, 0, 0⟩ : Nv) hM2)
          have HP5 := hid (px_put (w' := w) (B := B) (HP1.out.below hb2) (by omega) hrw HUn.out ⟨7, -1, none, 0, 0⟩)
          have HK5 := hid (putN_kept (HK1.out.trans (kept_below hb2)) (B := B) (by omega) ⟨7, -1, none, 0, 0⟩)
          have HH5 := hid ((putN_other wm2 B ⟨7, -1, none, 0, 0⟩ w.heap.size (by omega)).trans ((hb2.block _ (lt_of_block HH1.out)).trans HH1.out))
          clear hO2 hL2 hg2 HO1 HL1 HB1 hb2 hM2
          go_upto_region 15 with fail
          change Code.wp _ _ _ _ (putN wm2 B ⟨7, -1, none, 0, 0⟩)
          clear z0 z1 z2 z3 z4 z5 hlook HLk HP1 HK1 HH1 HM1 HB2 hws
          generalize putN wm2 B ⟨7, -1, none, 0, 0⟩ = w5 at HM5 HP5 HK5 HH5 ⊢
          have hs5 := lt_of_block HM5.out
          have HNd := hid (wa_need (la := la) (lc := lc) (L := L) HP5.out (i := i) (by omega))
          have hwk : IntKind.i64.wrap ((i : Int) + 1) = ((i + 1 : Nat) : Int) := by rw [IntKind.wrap_i64]; omega
          go_upto_region 16 with (go_at_call 36; refine HNd.out.mono ?_; rintro e6 w6 ⟨rfl, hwa6, hk6⟩)
          have HXc := hid (wa_expr (ev := ev) (d := d + 1) (m := m) (by omega) hwa6 (by unfold kbX; omega))
          have HK6 := hid hk6
          clear hwa6 hk6 HNd HP5 hwk
          go_upto_region 17 with (go_at_call 57; refine HXc.out.mono ?_; rintro e9 w9 ⟨v9, k9, rfl, hk9, hx9⟩; unfold aggN)
          have hb9 := below_new w9 (boxN v9)
          have hz6 := HK6.out.size
          have hz9 := hk9.size
          have HK9 := hid ((HK6.out.trans hk9).trans (kept_below hb9))
          have HX9 := hid (WxSt.below hx9 hb9)
          have HBx := hid (heap_alloc_new w9 (boxN v9))
          have hXB : w9.heap.size < (w9.alloc (boxN v9)).heap.size := by simp
          have hrX : r < w9.heap.size := by omega
          change Code.wp _ _ _ _ (w9.alloc (boxN v9))
          generalize w9.alloc (boxN v9) = w10 at HK9 HX9 HBx hXB ⊢
          generalize w9.heap.size = X9 at HBx hXB hz9 hrX ⊢
          clear hk9 hx9 hb9 HXc
          have HNd := hid (wx_need (m := m) (i := i) HX9.out (by unfold kbX; omega) (by unfold kbX; omega))
          go_upto_region 18 with (go_at_call 36; refine HNd.out.mono ?_; rintro e11 w11 ⟨rfl, hk11, hy11⟩)
          have hz11 := hk11.size
          have HKa := hid (HK9.out.trans hk11)
          have hG9 := (grow_nil (base := w.heap.size) (S := fun b => b = w.heap.size ∨ b = B) HM5.out).kept HKa.out (by omega) (fun b hb => by omega)
          have hb := below_new w11 (.cells (cellsN [v9]).toArray 26)
          have HBb := hid hb
          have HRow := hid (hG9.below hb).row
          have hX11 := (hk11.block _ hXB (by omega)).trans HBx.out
          have HSrc := hid (row_cells (new_row w11 [v9] (by simp)))
          obtain ⟨⟨x0, x1, x2⟩, x3, x4, x5⟩ := boxN_facts hX11
          obtain ⟨⟨y0, y1, y2⟩, y3, y4, y5⟩ := boxN_facts hG9.box
          have hB9l := lt_of_block hG9.box
          have hX9l := lt_of_block hX11
          have hBX : B ≠ X9 := by omega
          have hXB2 : X9 ≠ B := by omega
          have HC9 := hid hy11
          have hwb : w.heap.size ≤ (w11.alloc (.cells (cellsN [v9]).toArray 26)).heap.size := by have := hb.size; omega
          obtain ⟨i0, hi0, hz0, hzz1, hzz2⟩ := info_parts info_node
          clear hk11 hy11 hb hG9 hX11 HNd HK9 HX9 HBx
          go_upto_region 19 with (at_builtin; refine wpList_append_own_at _ rfl _ _ 24 rfl w.heap.size 26 i0 _ 3 40 Try.underlying24 hi0 hz0 hzz1 hzz2 rfl (by decide) _ _ _ rfl HRow.out ⟨w11.heap.size, 0, none⟩ 1 1 (cellsN [v9]) rfl (cellsN_length _) HSrc.out (cellsN_one_cell _) (by unfold maxLen; simp) (by simp) hwb ?_; intro v' w7 hown7 hg7 _ hob7; obtain ⟨a1, c1, hv7, hB7, hW7⟩ := wh_first (b := false) (kd := 7) (d := d + 1) (K := ksX L m + 2) (m := m) (i := i) (k := k9 + 1) hrw HUn.out hz1 HK5.out HH5.out HM5.out HR2.out hel HKa.out HBb.out hown7 hg7 hob7 rfl (by rcases HC9.out with ⟨n, q1, q2, q3, q4, q5⟩ | ⟨y, q1, q2, q3⟩; exact .inl ⟨n, q1, q2.mono (fun b hb _ => by omega), q3, q4, q5⟩; exact .inr ⟨y, q1, q2, by omega⟩); subst hv7; obtain ⟨⟨u0, u1, u2⟩, u3, u4, u5⟩ := boxN_facts hB7; have hB7l := lt_of_block hB7; have HWh := hid hW7; clear hown7 hg7 hob7 hB7 hW7 x0 x1 x2 x3 x4 x5 y0 y1 y2 y3 y4 y5)
          change Code.wp _ _ _ _ (w7.setCell ⟨B, 2, none⟩ (.slice a1 1 c1))
          clear u0 u1 u2 u3 u4 u5
          generalize w7.setCell ⟨B, 2, none⟩ (.slice a1 1 c1) = w8 at HWh ⊢
          clear HKa HBb HRow HSrc HC9 HR2 HM5 HK5 HH5 hB7l hB9l hX9l
          go_wp2_with fail
          go_loopg [2] 2 (fun g x wr => ∃ k : Nat, x = .int .i64 (k : Int) ∧ Hid (WhSt r la lc L m en false 7 (d + 1) (ksX L m + 2) R w B g k wr))
          case atStart => exact ⟨k9 + 1, by go_num, HWh.out⟩
          case round =>
            obtain ⟨k, rfl, HS⟩ := hrel
            obtain ⟨hK, hH, nvs, a, c, hG, hcase⟩ := HS.out
            clear HS HWh
            rcases hcase with ⟨ks, hRw, hN, hp, hkL2, hek, hng, hg1⟩ | ⟨y, hy, ⟨hy0, d0, hp⟩, hkK⟩
            · obtain ⟨g, rfl⟩ : ∃ g, gk = g + 1 := ⟨gk - 1, by omega⟩
              have HO := hid (pok_any wr hp)
              have HSx := hid (hS (d + 1) k en ev wr (by omega) hp hkL2 hek HNil.out (HEn.out _ hK))
              have HKq := hid hK
              have HHq := hid hH
              have HG := hid hG
              have HNs := hid hN
              have HRw := hid hRw
              have hHl := lt_of_block hH
              have hBl := lt_of_block hG.box
              clear hp hK hH hG hN hRw
              go_wp2_with fail
              refine HO.out.mono ?_
              rintro e3 w6 ⟨rfl, rfl⟩
              go_wp2_with fail
              refine HSx.out.mono ?_
              rintro e9 w9 hq9
              obtain ⟨v9, k9, ev9, rfl, hk9, hc9⟩ := hq9.any
              have hz9 := hk9.size
              have hb1 := below_new w9 (boxN v9)
              have hs2 : (w9.alloc (boxN v9)).heap.size = w9.heap.size + 1 := by simp
              have hb2 := below_new (w9.alloc (boxN v9)) (.cells (cellsN [v9]).toArray 26)
              have hb : Below w9.heap.size w9 ((w9.alloc (boxN v9)).alloc (.cells (cellsN [v9]).toArray 26)) := hb1.trans (hb2.mono hb1.size)
              have HBb := hid hb
              have hG9 := HG.out.kept hk9 (by omega) (fun b hb => by omega)
              have HRow := hid (hG9.below hb).row
              have hsrc := row_cells (new_row (w9.alloc (boxN v9)) [v9] (by simp))
              rw [hs2] at hsrc
              have HSrc := hid hsrc
              obtain ⟨⟨y0, y1, y2⟩, y3, y4, y5⟩ := boxN_facts hG9.box
              have hB9l := lt_of_block hG9.box
              have HC9 := hid hc9
              have HK9 := hid hk9
              have hwb : w.heap.size ≤ ((w9.alloc (boxN v9)).alloc (.cells (cellsN [v9]).toArray 26)).heap.size := by have := hb.size; omega
              have hnl3 : nvs.length ≤ 6000 := by omega
              clear hk9 hc9 hq9 hb1 hb2 hb hG9 hsrc hs2
              unfold aggN
              go_upto_region 22 with (at_builtin; refine wpList_append_own_at _ rfl _ _ 24 rfl w.heap.size 26 i0 _ 3 40 Try.underlying24 hi0 hz0 hzz1 hzz2 rfl (by decide) _ _ _ rfl HRow.out ⟨w9.heap.size + 1, 0, none⟩ 1 1 (cellsN [v9]) rfl (cellsN_length _) HSrc.out (cellsN_one_cell _) (by unfold maxLen; omega) (by omega) hwb ?_; intro v' w8 hown7 hg7 _ hob7; obtain ⟨a1, c1, hv7, hB7, hW7⟩ := wh_next (b := false) (kd := 7) (d := d + 1) (K := ksX L m) (m := m) hF hrw HUn.out hz1 rfl HKq.out HHq.out HG.out HRw.out HNs.out hek (by omega) HK9.out HBb.out hown7 hg7 hob7 (by simp) (by rcases HC9.out with ⟨n, e2, q1, q2, q3, q4, q5, q6⟩ | ⟨y, q1, q2, q3⟩; exact .inl ⟨n, e2, q1, q2, q3, q4⟩; exact .inr ⟨y, q1, q2, q3⟩); rw [show (nvs ++ [v9]).length = nvs.length + 1 by simp] at hv7; subst hv7; obtain ⟨⟨u0, u1, u2⟩, u3, u4, u5⟩ := boxN_facts hB7; have hB7l := lt_of_block hB7; have HWe := hid hW7; clear hown7 hg7 hob7 hB7 hW7 y0 y1 y2 y3 y4 y5)
              change Code.wp _ _ _ _ (w8.setCell ⟨B, 2, none⟩ (.slice a1 (nvs.length + 1) c1))
              clear u0 u1 u2 u3 u4 u5
              generalize w8.setCell ⟨B, 2, none⟩ (.slice a1 (nvs.length + 1) c1) = w10 at HWe ⊢
              have hlen : (nvs ++ [v9]).length = nvs.length + 1 := by simp
              generalize nvs ++ [v9] = nvs2 at HWe hlen
              have HSm := hid (fun (hn : ¬ (false = true ∧ nvs2.length ≤ 2 ∧ wordT L k9 = wElse)) => HWe.out.end HEn.out hn (ksX L m + 4) (by omega))
              have hbx := HWe.out.2.2.1.box
              have HSq := hid (HSm.out (by simp))
              clear HWe HSm hbx
              go_wp2_with fail
              go_meet
              exact ⟨k9, ev, _, rfl, rfl, HSq.out⟩
            · have HO := hid (pok_any wr hp)
              rw [show (y.1 == 0) = false by simpa using hy0] at HO
              have HSm : Hid (SmSt r la lc L (d + 1) (ksX L m + 4) R w B k ev ⟨7, -1, a, nvs.length, c⟩ wr) := WhSt.bad hK hH hG hy ⟨hy0, d0, hp⟩ (by omega)
              clear hK hH hG hy hp hy0
              go_wp2_with fail
              refine HO.out.mono ?_
              rintro e3 w6 ⟨rfl, rfl⟩
              go_wp2_with fail
              go_meet
              exact ⟨k, ev, _, rfl, rfl, HSm.out⟩
      · have h2 : wordT L i ≠ wIf := fun e => h23 (.inl e)
        have h3 : wordT L i ≠ wWhile := fun e => h23 (.inr e)
        rw [decide_eq_false h2] at h2e
        rw [decide_eq_false h3] at h3e
        by_cases h4 : wordT L i = wReturn
        · rw [decide_eq_true h4] at h4e
          have HR5 : Hid (R = match semiR L (fun l i => exR L m 0 l i) 8 (i + 1) with
            | .error x => .error x
            | .ok (n, k) => .ok (n, k, en)) := by show _ = _; rw [← HR.out]; simp only [stR]; rw [if_neg h1, if_neg h23, if_pos h4]; cases semiR L (fun l i => exR L m 0 l i) 8 (i + 1) <;> rfl
          have HM5 := hid (putN_block (⟨8, -1, none, 0, 0⟩ : Nv) HM1.out)
          have HP5 := hid (px_put (w' := w) (B := B) HP1.out (by omega) hrw HUn.out ⟨8, -1, none, 0, 0⟩)
          have HK5 := hid (putN_kept HK1.out (B := B) (by omega) ⟨8, -1, none, 0, 0⟩)
          have HH5 := hid ((putN_other w3 B ⟨8, -1, none, 0, 0⟩ w.heap.size (by omega)).trans HH1.out)
          have HXk := hid (fun i' W (hW : PkAt W r la lc L (d + 1)) (h1 : i' ≤ L.length) => (ex_all_r r la lc L m (by omega)).1 (d + 1) 1 i' ev W (by omega) hW h1 (by decide) (by decide))
          have HAdv := hid (exR_adv L m).1
          obtain ⟨i0, hi0, hz0, hzz1, hzz2⟩ := info_parts info_node
          obtain ⟨⟨z0, z1, z2⟩, z3, z4, z5⟩ := boxN_facts HM1.out
          go_upto_region 27 with fail
          change Code.wp _ _ _ _ (putN w3 B ⟨8, -1, none, 0, 0⟩)
          clear z0 z1 z2 z3 z4 z5
          generalize putN w3 B ⟨8, -1, none, 0, 0⟩ = w5 at HM5 HP5 HK5 HH5 ⊢
          have hs5 := lt_of_block HM5.out
          have hil := wrd_lt h4 (by unfold wReturn; simp)
          clear h6e h6n h4
          have HWj := hid (pword_any w5 HP5.out (i + 1))
          have h6e := wrd_lit L (i + 1) [59]
          have h6n := wrd_lin L (i + 1) [59]
          generalize wrdB L (i + 1) = wj at HWj h6e h6n
          have hwk : IntKind.i64.wrap ((i : Int) + 1) = ((i + 1 : Nat) : Int) := by rw [IntKind.wrap_i64]; omega
          by_cases h6 : wordT L (i + 1) = [59]
          · have hjl := wrd_lt h6 (by simp)
            rw [decide_eq_true h6] at h6e h6n
            rw [Bool.not_true] at h6n
            have HR6 : Hid (R = .ok (.mk 8 (-1) [], (i + 1) + 1, en)) := by show _ = _; rw [HR5.out]; unfold semiR; rw [if_pos h6]
            have HNd := hid (need_hit w5 HP5.out (i + 1) (by omega) ⟨#[59]⟩ h6)
            have HSt : Hid (SmSt r la lc L (d + 1) (ksX L m + 4) R w B ((i + 1) + 1) ev ⟨8, -1, none, 0, 0⟩ w5) := ⟨HK5.out, HH5.out, HM5.out, .inl ⟨_, en, HR6.out, (grow_nil (base := w.heap.size) (S := fun b => b = w.heap.size ∨ b = B) HM5.out).nd NdsIs.nil (fun b h1 h2 => ⟨by omega, by omega⟩), HP5.out, by omega, by omega, HEn.out _ HK5.out⟩⟩
            clear h6
            go_wp2_with fail
            refine HWj.out.mono ?_
            rintro e6 w6 ⟨rfl, rfl⟩
            go_wp2_with fail
            refine HNd.out.mono ?_
            rintro e7 wz ⟨rfl, rfl⟩
            go_wp2_with fail
            go_meet
            exact ⟨(i + 1) + 1, ev, _, rfl, rfl, HSt.out⟩
          · rw [decide_eq_false h6] at h6e h6n
            rw [Bool.not_false] at h6n
            have HDn : Hid (R = match exR L m 0 1 (i + 1) with
              | .error x => .error x
              | .ok (x, k) => if wordT L k = [59] then .ok (.mk 8 (-1) [x], k + 1, en) else .error (2, k)) := by
              show _ = _
              rw [HR5.out]; unfold semiR; rw [if_neg h6]
              dsimp only
              rcases exR L m 0 1 (i + 1) with y | ⟨x, k⟩
              · rfl
              · dsimp only
                by_cases h : wordT L k = [59]
                · rw [if_pos h, if_pos h]
                · rw [if_neg h, if_neg h]
            have hx1 := HXk.out (i + 1) w5 HP5.out (by omega)
            rw [show (((1 : Nat) : Int) - 1) = 0 from rfl] at hx1
            have HX1 := hid hx1
            have HAd := hid (fun b k' (h : exR L m 0 1 (i + 1) = .ok (b, k')) => HAdv.out 1 (i + 1) b k' (Nat.le_refl _) h)
            have HG6 := hid (grow_nil (base := w.heap.size) (S := fun b => b = w.heap.size ∨ b = B) HM5.out)
            clear hx1 h6
            go_wp2_with fail
            refine HWj.out.mono ?_
            rintro e6 w6 ⟨rfl, rfl⟩
            go_wp2_with fail
            refine HX1.out.mono ?_
            rintro e9 w9 hq9
            obtain ⟨v9, k9, rfl, hk9, hc9⟩ := hq9.any
            have hz9 := hk9.size
            have hb1 := below_new w9 (boxN v9)
            have hs2 : (w9.alloc (boxN v9)).heap.size = w9.heap.size + 1 := by simp
            have hb2 := below_new (w9.alloc (boxN v9)) (.cells (cellsN [v9]).toArray 26)
            have hb : Below w9.heap.size w9 ((w9.alloc (boxN v9)).alloc (.cells (cellsN [v9]).toArray 26)) := hb1.trans (hb2.mono hb1.size)
            have HBb := hid hb
            have hG9 := HG6.out.kept hk9 (by omega) (fun b hb => by omega)
            have HRow := hid (hG9.below hb).row
            have hsrc := row_cells (new_row (w9.alloc (boxN v9)) [v9] (by simp))
            rw [hs2] at hsrc
            have HSrc := hid hsrc
            obtain ⟨⟨y0, y1, y2⟩, y3, y4, y5⟩ := boxN_facts hG9.box
            have hB9l := lt_of_block hG9.box
            have HC9 := hid hc9
            have HK9 := hid hk9
            have hwb : w.heap.size ≤ ((w9.alloc (boxN v9)).alloc (.cells (cellsN [v9]).toArray 26)).heap.size := by have := hb.size; omega
            clear hk9 hc9 hq9 hb1 hb2 hb hG9 hsrc hs2
            unfold aggN
            go_wp2_with (at_builtin; refine wpList_append_own_at _ rfl _ _ 24 rfl w.heap.size 26 i0 _ 3 40 Try.underlying24 hi0 hz0 hzz1 hzz2 rfl (by decide) _ _ _ rfl HRow.out ⟨w9.heap.size + 1, 0, none⟩ 1 1 (cellsN [v9]) rfl (cellsN_length _) HSrc.out (cellsN_one_cell _) (by unfold maxLen; simp) (by simp) hwb ?_)
            intro v' w7 hown7 hg7 _ hob7
            obtain ⟨a1, c1, hv7, hB7, hG8, hN8, hV8, hK8, hS8, hP8, hE8⟩ := grow_next (r := r) (la := la) (lc := lc) (L := L) (v9 := v9) rfl hrw HUn.out (fun b hs => by rcases hs with rfl | rfl <;> omega) (.inr rfl) HG6.out HK9.out HBb.out hown7 hg7 hob7 (by simp)
            rw [show (([] : List Nv) ++ [v9]).length = 1 from rfl] at hv7 hN8 hV8
            subst hv7
            obtain ⟨⟨u0, u1, u2⟩, u3, u4, u5⟩ := boxN_facts hB7
            have hB7l := lt_of_block hB7
            have HKd := hid (hK8 HK5.out)
            have HHd := hid ((hS8 _ (.inl rfl) (by omega)).trans HH5.out)
            have HGd := hid hG8
            have HVd := hid hV8
            have HEd := hid (hE8 _ _ (HEn.out _ (HK5.out.trans HK9.out)))
            have HPd : Hid (∀ {e f aa dd : Int}, PxAt w9 r la lc L e f aa dd → PxAt (w7.setCell ⟨B, 2, none⟩ (.slice a1 1 c1)) r la lc L e f aa dd) := fun {e f aa dd} h => hP8 h
            clear hown7 hg7 hob7 hB7 y0 y1 y2 y3 y4 y5 HK9 HRow HSrc hK8 hS8 hG8 hV8 hN8 hP8 hE8
            go_upto_region 31 with fail
            change Code.wp _ _ _ _ (w7.setCell ⟨B, 2, none⟩ (.slice a1 1 c1))
            clear u0 u1 u2 u3 u4 u5
            generalize w7.setCell ⟨B, 2, none⟩ (.slice a1 1 c1) = w8 at HKd HHd HGd HVd HPd HEd ⊢
            have HNd8 : Hid (∀ n, NdIs w9 (w6.heap.size ≤ ·) v9 n → NdIs w8 (fun b => w.heap.size < b ∧ b ≠ B) ⟨8, -1, a1, 1, c1⟩ (.mk 8 (-1) [n])) := fun n hn => HGd.out.nd (ks := [n]) (NdsIs.one (HVd.out n hn)) fun b h1 h2 => ⟨by omega, by omega⟩
            have HBd := hid HGd.out.box
            rcases HC9.out with ⟨n, h1, h2, h3, h4⟩ | ⟨y, h1, h2, ⟨h3, d', h4⟩⟩
            · have hn8 := HNd8.out n h2
              have hp8 := HPd.out h3
              have had := HAd.out _ _ h1
              rw [h1] at HDn
              dsimp only at HDn
              clear h1 h2 h3
              by_cases h93 : wordT L k9 = [59]
              · rw [if_pos h93] at HDn
                have HNd := hid (need_hit w8 hp8 k9 (by omega) ⟨#[59]⟩ h93)
                have hkk := wrd_lt h93 (by simp)
                have HSt : Hid (SmSt r la lc L (d + 1) (ksX L m + 4) R w B (k9 + 1) ev ⟨8, -1, a1, 1, c1⟩ w8) := ⟨HKd.out, HHd.out, HBd.out, .inl ⟨_, en, HDn.out, hn8, hp8, by omega, by omega, HEd.out⟩⟩
                clear hn8 hp8 h93
                go_wp2_with fail
                refine HNd.out.mono ?_
                rintro e7 wz ⟨rfl, rfl⟩
                go_wp2_with fail
                go_meet
                exact ⟨k9 + 1, ev, _, rfl, rfl, HSt.out⟩
              · rw [if_neg h93] at HDn
                have HNd := hid (need_miss w8 hp8 k9 (by omega) ⟨#[59]⟩ h93)
                clear hn8 hp8 h93
                go_wp2_with fail
                refine HNd.out.mono ?_
                rintro e7 wz ⟨rfl, hpz, hkz⟩
                have HSt : Hid (SmSt r la lc L (d + 1) (ksX L m + 4) R w B (k9 + 1) ev ⟨8, -1, a1, 1, c1⟩ wz) := ⟨HKd.out.trans hkz, (hkz.block _ (lt_of_block HHd.out) (by omega)).trans HHd.out, (hkz.block _ (lt_of_block HBd.out) (by omega)).trans HBd.out, .inr ⟨_, HDn.out, by omega, ⟨show (2 : Int) ≠ 0 by decide, _, hpz⟩⟩⟩
                clear hpz hkz
                go_wp2_with fail
                go_meet
                exact ⟨k9 + 1, ev, _, rfl, rfl, HSt.out⟩
            · have hp8 := HPd.out h4
              rw [h1] at HDn
              dsimp only at HDn
              have hkb : kbX L m ≤ 100000 := by omega
              have HNd := hid (need_bad w8 hp8 h3 k9 (by omega) ⟨#[59]⟩)
              have HSt : Hid (SmSt r la lc L (d + 1) (ksX L m + 4) R w B (k9 + 1) ev ⟨8, -1, a1, 1, c1⟩ w8) := ⟨HKd.out, HHd.out, HBd.out, .inr ⟨y, HDn.out, by omega, ⟨h3, d', hp8⟩⟩⟩
              clear h1 h3 h4 hp8
              go_wp2_with fail
              refine HNd.out.mono ?_
              rintro e7 wz ⟨rfl, rfl⟩
              go_wp2_with fail
              go_meet
              exact ⟨k9 + 1, ev, _, rfl, rfl, HSt.out⟩
        · rw [decide_eq_false h4] at h4e
          have HTy := hid (pistype_any w3 HP1.out hs (HEn.out _ HK1.out) i)
          by_cases h5 : wordT L i = wTypedef ∨ typT L en i = true
          · have HR4 : Hid (R = declR L (fun l i => exR L m 0 l i) en i) := by show _ = _; rw [← HR.out]; simp only [stR]; rw [if_neg h1, if_neg h23, if_neg h4, if_pos h5]
            have HDc := hid (fun W (hW : Below w3.heap.size w3 W) => decl_any (r := r) (la := la) (lc := lc) (d + 1) m (by omega) hs en i ev W (HP1.out.below hW) hi hel HNil.out (HEn.out _ (HK1.out.trans (kept_below hW))))
            by_cases h5a : wordT L i = wTypedef
            · rw [decide_eq_true h5a] at h5e
              clear h1 h23 h2 h3 h4 h5 h5a h6e h6n HTy
              go_wp2_with fail
              refine (HDc.out _ (Below.refl _ _)).mono ?_
              rintro e5 w5 hq5
              obtain ⟨v5, k5, ev5, rfl, hk5, hc5⟩ := hq5.any
              have HS5 : Hid (SmSt r la lc L (d + 1) (ksX L m + 4) R w B k5 ev5 v5 (putN w5 B v5)) := by
                refine sm_node hrw HUn.out hz1 hs1 HK1.out HH1.out HM1.out hk5 ?_
                rcases hc5 with ⟨n, e2, h1, h2, h3, h4, h5, h6⟩ | ⟨y, h1, h2, h3⟩
                · exact .inl ⟨n, e2, HR4.out.trans h1, h2, h3, h4, h5, h6⟩
                · exact .inr ⟨y, HR4.out.trans h1, by omega, h3⟩
              have hB5 := (hk5.block _ hs1 (by omega)).trans HM1.out
              obtain ⟨⟨z0, z1, z2⟩, z3, z4, z5⟩ := boxN_facts hB5
              have hB5l := lt_of_block hB5
              clear hk5 hc5 hq5
              unfold aggN
              go_wp2_with fail
              go_meet
              exact ⟨k5, ev5, v5, rfl, rfl, HS5.out⟩
            · rw [decide_eq_false h5a] at h5e
              have hty : typT L en i = true := h5.resolve_left h5a
              rw [hty] at HTy
              clear h1 h23 h2 h3 h4 h5 h5a hty h6e h6n
              go_wp2_with fail
              refine HTy.out.mono ?_
              rintro e4 w4 ⟨rfl, hb4⟩
              have HB4 := hid hb4
              have HK4 := hid (HK1.out.trans (kept_below hb4))
              have HH4 := hid ((hb4.block _ (lt_of_block HH1.out)).trans HH1.out)
              have HM4 := hid ((hb4.block _ hs1).trans HM1.out)
              have hs4 := lt_of_block HM4.out
              clear hb4
              go_wp2_with fail
              refine (HDc.out _ HB4.out).mono ?_
              rintro e5 w5 hq5
              obtain ⟨v5, k5, ev5, rfl, hk5, hc5⟩ := hq5.any
              have HS5 : Hid (SmSt r la lc L (d + 1) (ksX L m + 4) R w B k5 ev5 v5 (putN w5 B v5)) := by
                refine sm_node hrw HUn.out hz1 hs4 HK4.out HH4.out HM4.out hk5 ?_
                rcases hc5 with ⟨n, e2, h1, h2, h3, h4, h5, h6⟩ | ⟨y, h1, h2, h3⟩
                · exact .inl ⟨n, e2, HR4.out.trans h1, h2, h3, h4, h5, h6⟩
                · exact .inr ⟨y, HR4.out.trans h1, by omega, h3⟩
              have hB5 := (hk5.block _ hs4 (by omega)).trans HM4.out
              obtain ⟨⟨z0, z1, z2⟩, z3, z4, z5⟩ := boxN_facts hB5
              have hB5l := lt_of_block hB5
              clear hk5 hc5 hq5
              unfold aggN
              go_wp2_with fail
              go_meet
              exact ⟨k5, ev5, v5, rfl, rfl, HS5.out⟩
          · have h5a : wordT L i ≠ wTypedef := fun e => h5 (.inl e)
            have hty : typT L en i = false := by cases h : typT L en i with
              | true => exact absurd (.inr h) h5
              | false => rfl
            rw [decide_eq_false h5a] at h5e
            rw [hty] at HTy
            have HC : Hid True := trivial
            go_upto_region 5 with (go_at_call 54; refine HTy.out.mono ?_; rintro e4 w4 ⟨rfl, hb4⟩)
            have HP1 := hid (HP1.out.below hb4)
            have HK1 := hid (HK1.out.trans (kept_below hb4))
            have HH1 := hid ((hb4.block _ (lt_of_block HH1.out)).trans HH1.out)
            have HM1 := hid ((hb4.block _ hs1).trans HM1.out)
            have hs1 := lt_of_block HM1.out
            clear hb4 HTy
            have HR5 : Hid (R = match semiR L (fun l i => exR L m 0 l i) 9 i with
              | .error x => .error x
              | .ok (n, k) => .ok (n, k, en)) := by show _ = _; rw [← HR.out]; simp only [stR]; rw [if_neg h1, if_neg h23, if_neg h4, if_neg h5]; cases semiR L (fun l i => exR L m 0 l i) 9 i <;> rfl
            have HM5 := hid (putN_block (⟨9, -1, none, 0, 0⟩ : Nv) HM1.out)
            have HP5 := hid (px_put (w' := w) (B := B) HP1.out (by omega) hrw HUn.out ⟨9, -1, none, 0, 0⟩)
            have HK5 := hid (putN_kept HK1.out (B := B) (by omega) ⟨9, -1, none, 0, 0⟩)
            have HH5 := hid ((putN_other w4 B ⟨9, -1, none, 0, 0⟩ w.heap.size (by omega)).trans HH1.out)
            have HXk := hid (fun i' W (hW : PkAt W r la lc L (d + 1)) (h1 : i' ≤ L.length) => (ex_all_r r la lc L m (by omega)).1 (d + 1) 1 i' ev W (by omega) hW h1 (by decide) (by decide))
            have HAdv := hid (exR_adv L m).1
            obtain ⟨i0, hi0, hz0, hzz1, hzz2⟩ := info_parts info_node
            obtain ⟨⟨z0, z1, z2⟩, z3, z4, z5⟩ := boxN_facts HM1.out
            go_upto_region 6 with fail
            change Code.wp _ _ _ _ (putN w4 B ⟨9, -1, none, 0, 0⟩)
            clear z0 z1 z2 z3 z4 z5
            generalize putN w4 B ⟨9, -1, none, 0, 0⟩ = w5 at HM5 HP5 HK5 HH5 ⊢
            have hs5 := lt_of_block HM5.out
            by_cases h6 : wordT L i = [59]
            · have hjl := wrd_lt h6 (by simp)
              rw [decide_eq_true h6] at h6e h6n
              rw [Bool.not_true] at h6n
              have HR6 : Hid (R = .ok (.mk 9 (-1) [], i + 1, en)) := by show _ = _; rw [HR5.out]; unfold semiR; rw [if_pos h6]
              have HNd := hid (need_hit w5 HP5.out i (by omega) ⟨#[59]⟩ h6)
              have HSt : Hid (SmSt r la lc L (d + 1) (ksX L m + 4) R w B (i + 1) ev ⟨9, -1, none, 0, 0⟩ w5) := ⟨HK5.out, HH5.out, HM5.out, .inl ⟨_, en, HR6.out, (grow_nil (base := w.heap.size) (S := fun b => b = w.heap.size ∨ b = B) HM5.out).nd NdsIs.nil (fun b h1 h2 => ⟨by omega, by omega⟩), HP5.out, by omega, by omega, HEn.out _ HK5.out⟩⟩
              clear h6
              go_wp2_with fail
              refine HNd.out.mono ?_
              rintro e7 wz ⟨rfl, rfl⟩
              go_wp2_with fail
              go_meet
              exact ⟨i + 1, ev, _, rfl, rfl, HSt.out⟩
            · rw [decide_eq_false h6] at h6e h6n
              rw [Bool.not_false] at h6n
              have HDn : Hid (R = match exR L m 0 1 i with
                | .error x => .error x
                | .ok (x, k) => if wordT L k = [59] then .ok (.mk 9 (-1) [x], k + 1, en) else .error (2, k)) := by
                show _ = _
                rw [HR5.out]; unfold semiR; rw [if_neg h6]
                dsimp only
                rcases exR L m 0 1 i with y | ⟨x, k⟩
                · rfl
                · dsimp only
                  by_cases h : wordT L k = [59]
                  · rw [if_pos h, if_pos h]
                  · rw [if_neg h, if_neg h]
              have hx1 := HXk.out i w5 HP5.out hi
              rw [show (((1 : Nat) : Int) - 1) = 0 from rfl] at hx1
              have HX1 := hid hx1
              have HAd := hid (fun b k' (h : exR L m 0 1 i = .ok (b, k')) => HAdv.out 1 i b k' (Nat.le_refl _) h)
              have HG6 := hid (grow_nil (base := w.heap.size) (S := fun b => b = w.heap.size ∨ b = B) HM5.out)
              clear hx1 h6
              go_wp2_with fail
              refine HX1.out.mono ?_
              rintro e9 w9 hq9
              obtain ⟨v9, k9, rfl, hk9, hc9⟩ := hq9.any
              have hz9 := hk9.size
              have hb1 := below_new w9 (boxN v9)
              have hs2 : (w9.alloc (boxN v9)).heap.size = w9.heap.size + 1 := by simp
              have hb2 := below_new (w9.alloc (boxN v9)) (.cells (cellsN [v9]).toArray 26)
              have hb : Below w9.heap.size w9 ((w9.alloc (boxN v9)).alloc (.cells (cellsN [v9]).toArray 26)) := hb1.trans (hb2.mono hb1.size)
              have HBb := hid hb
              have hG9 := HG6.out.kept hk9 (by omega) (fun b hb => by omega)
              have HRow := hid (hG9.below hb).row
              have hsrc := row_cells (new_row (w9.alloc (boxN v9)) [v9] (by simp))
              rw [hs2] at hsrc
              have HSrc := hid hsrc
              obtain ⟨⟨y0, y1, y2⟩, y3, y4, y5⟩ := boxN_facts hG9.box
              have hB9l := lt_of_block hG9.box
              have HC9 := hid hc9
              have HK9 := hid hk9
              have hwb : w.heap.size ≤ ((w9.alloc (boxN v9)).alloc (.cells (cellsN [v9]).toArray 26)).heap.size := by have := hb.size; omega
              clear hk9 hc9 hq9 hb1 hb2 hb hG9 hsrc hs2
              unfold aggN
              go_wp2_with (at_builtin; refine wpList_append_own_at _ rfl _ _ 24 rfl w.heap.size 26 i0 _ 3 40 Try.underlying24 hi0 hz0 hzz1 hzz2 rfl (by decide) _ _ _ rfl HRow.out ⟨w9.heap.size + 1, 0, none⟩ 1 1 (cellsN [v9]) rfl (cellsN_length _) HSrc.out (cellsN_one_cell _) (by unfold maxLen; simp) (by simp) hwb ?_)
              intro v' w7 hown7 hg7 _ hob7
              obtain ⟨a1, c1, hv7, hB7, hG8, hN8, hV8, hK8, hS8, hP8, hE8⟩ := grow_next (r := r) (la := la) (lc := lc) (L := L) (v9 := v9) rfl hrw HUn.out (fun b hs => by rcases hs with rfl | rfl <;> omega) (.inr rfl) HG6.out HK9.out HBb.out hown7 hg7 hob7 (by simp)
              rw [show (([] : List Nv) ++ [v9]).length = 1 from rfl] at hv7 hN8 hV8
              subst hv7
              obtain ⟨⟨u0, u1, u2⟩, u3, u4, u5⟩ := boxN_facts hB7
              have hB7l := lt_of_block hB7
              have HKd := hid (hK8 HK5.out)
              have HHd := hid ((hS8 _ (.inl rfl) (by omega)).trans HH5.out)
              have HGd := hid hG8
              have HVd := hid hV8
              have HEd := hid (hE8 _ _ (HEn.out _ (HK5.out.trans HK9.out)))
              have HPd : Hid (∀ {e f aa dd : Int}, PxAt w9 r la lc L e f aa dd → PxAt (w7.setCell ⟨B, 2, none⟩ (.slice a1 1 c1)) r la lc L e f aa dd) := fun {e f aa dd} h => hP8 h
              clear hown7 hg7 hob7 hB7 y0 y1 y2 y3 y4 y5 HK9 HRow HSrc hK8 hS8 hG8 hV8 hN8 hP8 hE8
              go_upto_region 9 with fail
              change Code.wp _ _ _ _ (w7.setCell ⟨B, 2, none⟩ (.slice a1 1 c1))
              clear u0 u1 u2 u3 u4 u5
              generalize w7.setCell ⟨B, 2, none⟩ (.slice a1 1 c1) = w8 at HKd HHd HGd HVd HPd HEd ⊢
              have HNd8 : Hid (∀ n, NdIs w9 (w5.heap.size ≤ ·) v9 n → NdIs w8 (fun b => w.heap.size < b ∧ b ≠ B) ⟨9, -1, a1, 1, c1⟩ (.mk 9 (-1) [n])) := fun n hn => HGd.out.nd (ks := [n]) (NdsIs.one (HVd.out n hn)) fun b h1 h2 => ⟨by omega, by omega⟩
              have HBd := hid HGd.out.box
              rcases HC9.out with ⟨n, h1, h2, h3, h4⟩ | ⟨y, h1, h2, ⟨h3, d', h4⟩⟩
              · have hn8 := HNd8.out n h2
                have hp8 := HPd.out h3
                have had := HAd.out _ _ h1
                rw [h1] at HDn
                dsimp only at HDn
                clear h1 h2 h3
                by_cases h93 : wordT L k9 = [59]
                · rw [if_pos h93] at HDn
                  have HNd := hid (need_hit w8 hp8 k9 (by omega) ⟨#[59]⟩ h93)
                  have hkk := wrd_lt h93 (by simp)
                  have HSt : Hid (SmSt r la lc L (d + 1) (ksX L m + 4) R w B (k9 + 1) ev ⟨9, -1, a1, 1, c1⟩ w8) := ⟨HKd.out, HHd.out, HBd.out, .inl ⟨_, en, HDn.out, hn8, hp8, by omega, by omega, HEd.out⟩⟩
                  clear hn8 hp8 h93
                  go_wp2_with fail
                  refine HNd.out.mono ?_
                  rintro e7 wz ⟨rfl, rfl⟩
                  go_wp2_with fail
                  go_meet
                  exact ⟨k9 + 1, ev, _, rfl, rfl, HSt.out⟩
                · rw [if_neg h93] at HDn
                  have HNd := hid (need_miss w8 hp8 k9 (by omega) ⟨#[59]⟩ h93)
                  clear hn8 hp8 h93
                  go_wp2_with fail
                  refine HNd.out.mono ?_
                  rintro e7 wz ⟨rfl, hpz, hkz⟩
                  have HSt : Hid (SmSt r la lc L (d + 1) (ksX L m + 4) R w B (k9 + 1) ev ⟨9, -1, a1, 1, c1⟩ wz) := ⟨HKd.out.trans hkz, (hkz.block _ (lt_of_block HHd.out) (by omega)).trans HHd.out, (hkz.block _ (lt_of_block HBd.out) (by omega)).trans HBd.out, .inr ⟨_, HDn.out, by omega, ⟨show (2 : Int) ≠ 0 by decide, _, hpz⟩⟩⟩
                  clear hpz hkz
                  go_wp2_with fail
                  go_meet
                  exact ⟨k9 + 1, ev, _, rfl, rfl, HSt.out⟩
              · have hp8 := HPd.out h4
                rw [h1] at HDn
                dsimp only at HDn
                have hkb : kbX L m ≤ 100000 := by omega
                have HNd := hid (need_bad w8 hp8 h3 k9 (by omega) ⟨#[59]⟩)
                have HSt : Hid (SmSt r la lc L (d + 1) (ksX L m + 4) R w B (k9 + 1) ev ⟨9, -1, a1, 1, c1⟩ w8) := ⟨HKd.out, HHd.out, HBd.out, .inr ⟨y, HDn.out, by omega, ⟨h3, d', hp8⟩⟩⟩
                clear h1 h3 h4 hp8
                go_wp2_with fail
                refine HNd.out.mono ?_
                rintro e7 wz ⟨rfl, rfl⟩
                go_wp2_with fail
                go_meet
                exact ⟨k9 + 1, ev, _, rfl, rfl, HSt.out⟩
  case rest =>
    obtain ⟨k, e', x, rfl, rfl, HS5⟩ := hcut
    have hS5 := HS5.out
    obtain ⟨qe, qf, qa, q0, q1, hPx, hw1, hres, HEnd⟩ := hS5.end (by omega) hrw HUn.out
    obtain ⟨⟨b0, b1, b2, b3, b4⟩, g1, g2, g3, g4⟩ := hPx.facts
    obtain ⟨⟨a0, a1, a2⟩, _⟩ := boxN_facts hS5.box
    obtain ⟨⟨z0, z1, z2⟩, z3, z4, z5⟩ := boxN_facts hS5.res
    have hr6 := hPx.lt
    have hH6 := lt_of_block hS5.res
    have hB6 := lt_of_block hS5.box
    have hrB : r ≠ B := by omega
    have hBr : B ≠ r := by omega
    have hHB : w.heap.size ≠ B := by omega
    have hBH : B ≠ w.heap.size := by omega
    have hHr : w.heap.size ≠ r := by omega
    have hrH : r ≠ w.heap.size := by omega
    have HX := hid (And.intro hres HEnd)
    clear hPx hres HEnd b1 b2 b3 g1 g2 g3 hS5 HS5
    go_wp2_with fail
    have hq := HX.out.2 (ksX L (m + 1)) (by omega)
    exact bodyPost_ret (nret3 Try.results60 (putN_block x HX.out.1) _ rfl rfl rfl) rfl hq
end
end
section
open Go.RowKit Go.Shelf
theorem st_all_r (r : Nat) (la : Option Addr) (lc : Nat) (L : List Tk) (hF : ∀ t ∈ L, t.text.size ≠ 0) (hs : ∀ t ∈ L, t.text.size ≤ 3000) : ∀ m, m ≤ 30 → SOk r la lc L m ∧ BOk r la lc L m
  | 0, _ => ⟨sok_zero, bok_zero⟩
  | m + 1, hm => by
    obtain ⟨h1, h2⟩ := st_all_r r la lc L hF hs m (by omega)
    exact ⟨sok_step hF hs m (by omega) h1 h2, bok_step hF m (by omega) h1⟩
end
end Go.Proofs.Ytkfbhknhjpmomaa
