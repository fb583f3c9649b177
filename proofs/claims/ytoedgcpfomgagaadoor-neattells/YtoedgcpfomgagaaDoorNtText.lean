/- Walk of Text: a text written anew, or what is wrong. -/
import Derived.Test.YtoedgcpfomgagaaDoorNtBox
import Derived.Test.YtoedgcpfomgagaaDoorNtWritten
import Derived.Deep.RegionHeld3
namespace Go.Proofs.YtoedgcpfomgagaaDoor
open Go.RowKit Go.Shelf

theorem pad_repeat (n : Nat) : Lib.repeatL [32, 32] n = padF n := by
  induction n with
  | zero => rfl
  | succ n ih =>
    rw [Lib.repeatL, ih]
    unfold padF
    rw [show 2 * (n + 1) = 2 * n + 1 + 1 by omega, List.replicate_succ, List.replicate_succ]
    rfl

theorem LnHas.tat {gs : List (List Tk)} {vs : List Value} {v : Value} {wr : World} (h : LnHas gs vs v wr) {j : Nat} {g : List Tk} (hg : gs[j]? = some g) {a : Option Addr} {n c : Nat} (hv : vs[j]? = some (.slice a n c)) : TAt wr a g := by
  obtain ⟨aj, cj, e, hta⟩ := TAt.of_row (h.inner j g _ hg hv)
  injection e with e1 e2 e3
  subst e1
  exact hta
theorem LnHas.at {gs : List (List Tk)} {vs : List Value} {la : Option Addr} {n lc : Nat} {wr : World} (h : LnHas gs vs (.slice la n lc) wr) (j : Nat) (g : List Tk) (hg : gs[j]? = some g) :
    ∃ b aj cj, la = some ⟨b, 0, none⟩ ∧ b < wr.heap.size ∧ wr.cell? ⟨b, j, none⟩ = some (.slice aj g.length cj) ∧ TAt wr aj g ∧ g.length ≤ cj ∧ vs[j]? = some (.slice aj g.length cj) := by
  have hj : j < gs.length := (List.getElem?_eq_some_iff.1 hg).1
  have hjv : j < vs.length := by rw [h.len]; exact hj
  have hv := List.getElem?_eq_getElem hjv
  obtain ⟨aj, cj, e, hta⟩ := TAt.of_row (h.inner j g _ hg hv)
  rw [e] at hv
  rcases h.outer.2 with ⟨_, h0⟩ | ⟨b, cap, cur, e2, hb, hh, _⟩
  · rw [h0] at hj; omega
  · injection e2 with e3 e4 e5
    subst e3 e4
    exact ⟨b, aj, cj, rfl, lt_of_block hh, row_cell h.outer j _ hv, hta, row_cap (h.inner j g _ hg hv) rfl, hv⟩
theorem neat_out {gs : List (List Tk)} {j : Nat} (hj : j + 1 ≤ gs.length) (h : 3000 < (neatN gs (j + 1)).1.length) : 3000 < (neatL gs).length :=
  Nat.lt_of_lt_of_le h (neatN_mono gs (j + 1) gs.length hj)

set_option maxRecDepth 100000 in
set_option maxHeartbeats 4000000 in
theorem NText_any (s : ByteArray) (w : World) (hE : Env w) :
    Calls Tryd.prog 6 #[.string s] w fun e w' => e = .returned (.tuple #[.string ⟨(neatF s.data.toList).1.toArray⟩, faultV (neatF s.data.toList).2]) ∧ Below w.heap.size w w' := by
  have HN : Hid (neatF s.data.toList = if (toksF 0 s.data.toList).2.1 ≠ 0 then ([], (toksF 0 s.data.toList).2)
    else if 3000 < (neatL (linesF (toksF 0 s.data.toList).1)).length then ([], (4, 0, 0)) else (neatL (linesF (toksF 0 s.data.toList).1), (0, -1, 0))) := rfl
  have HFew := hid (toks_few 0 s.data.toList)
  have HSm := hid (toks_small 0 s.data.toList)
  have HHd := hid (toks_head 0 s.data.toList)
  have hB0 := (Below.refl w.heap.size w).alloc (Nat.le_refl _) (.cells #[.int .i64 0, .int .i64 0, .int .i64 0] 24)
  have HT := hid (Tokens_any 0 s _ (hE.below hB0))
  have HF0 := hid (FNx.new w 0 0 0)
  have HB0 := hid hB0
  unfold TokPost faultV at HT
  unfold faultV
  have HL := hid (linesF_ok (toksF 0 s.data.toList).1 HHd.out)
  have HFl := hid (linesF_flat (toksF 0 s.data.toList).1)
  clear hB0 HHd
  generalize neatF s.data.toList = nf at HN ⊢
  generalize (toksF 0 s.data.toList).1 = ts at *
  generalize (toksF 0 s.data.toList).2 = F at *
  obtain ⟨f0, f1, f2⟩ := F
  dsimp only at HN HT
  by_cases hf : f0 = 0
  · subst hf
    rw [if_neg (by simp)] at HN
    go_enter Tryd.func6, Tryd.ntmps6
    go_wp2_with fail
    refine HT.out.mono ?_
    rintro e w1 ⟨a1, c1, rfl, hT1, hb1, hcap1⟩
    have HB1 := hid (HB0.out.trans (hb1.mono HB0.out.size))
    have HF1 := hid (HF0.out.below hb1)
    have HB2 := hid (HB1.out.alloc HB1.out.size (.cells #[.int .i64 0, .int .i64 f1, .int .i64 f2] 24))
    have HBx := hid ((Below.refl _ w1).alloc (Nat.le_refl _) (.cells #[.int .i64 0, .int .i64 f1, .int .i64 f2] 24))
    have HTk := hid (hT1.below HBx.out)
    have HF2 := hid (HF1.out.below HBx.out)
    clear HT HB0 HF0 hT1 HF1 HBx hb1
    go_wp2_with fail
    have hBx : w1.heap.size + 1 = (w1.alloc (.cells #[.int .i64 0, .int .i64 f1, .int .i64 f2] 24)).heap.size := by simp
    have HLt : Hid (w.heap.size < w1.heap.size + 1) := by show _ < _; have := HB1.out.size; omega
    rw [hBx] at HLt ⊢
    generalize w1.alloc (.cells #[.int .i64 0, .int .i64 f1, .int .i64 f2] 24) = w2 at HB2 HTk HF2 HLt ⊢
    clear hBx HB1
    have hBl := Lib.fresh_isBuilder 39 5 w2
    have hB3 := (Below.refl _ w2).alloc (Nat.le_refl _) (.cells #[.pointer none, .slice none 0 0] 39)
    have HLn := hid (Lines_st a1 c1 ts _ (HTk.out.below hB3) (by have := HFew.out; omega))
    refine HLn.out.mono ?_
    rintro e w4 ⟨v, vs, rfl, hln⟩
    have HS : Hid (NtSt w w2.heap.size [] (linesF ts) vs v w4) := ⟨(HB2.out.trans (hB3.mono HB2.out.size)).trans (hln.old.mono (by have := HLt.out; simp; omega)), (HF2.out.below hB3).below hln.old, HLt.out, IsBuilder.below hBl hln.old, hln.has⟩
    have hgl : (linesF ts).length ≤ 3000 ∧ ∀ g ∈ linesF ts, g.length ≤ 3000 := by
      have h := lines_len ts ts.length (Nat.le_refl _)
      rw [List.take_length] at h
      have hf := HFew.out
      exact ⟨by omega, fun g hg => by have := h.2 g hg; omega⟩
    have HSg : Hid (∀ g ∈ linesF ts, ∀ t ∈ g, t.text.size ≤ 3000) := fun g hg t ht => HSm.out t (by rw [← HFl.out]; exact List.mem_flatten.2 ⟨g, hg, ht⟩)
    have HEn : Hid (∀ W, Below w.heap.size w W → Env W) := fun W h => hE.below h
    clear HLn hln hBl hB3 HTk HF2 HFew HSm HFl HB2 hE hcap1
    generalize linesF ts = gs at HN HL HS hgl HSg
    have HBd := hid (neatN_le gs 3000 (fun g hg => ⟨hgl.2 g hg, HSg.out g hg⟩))
    obtain ⟨la, lc, rfl, _⟩ := HS.out.lns.lat
    have hgl1 := hgl.1
    have HGl := hid hgl.2
    generalize w2.heap.size = B at HS HLt ⊢
    clear hgl
    go_wp2_with fail
    go_loopw [7, 22] (fun dv x wr => ∃ j : Nat, j ≤ gs.length ∧ x = .int .i64 j ∧ dv = .int .i64 ((neatN gs j).2 : Nat) ∧ Hid ((neatN gs j).1.length ≤ 3000) ∧ Hid (NtSt w B (neatN gs j).1 gs vs (.slice la gs.length lc) wr)) (fun _ x _ => gs.length - (intOf x).toNat)
    case atStart => exact ⟨0, Nat.zero_le _, rfl, rfl, Nat.zero_le _, HS.out⟩
    case round =>
      obtain ⟨j, hj, rfl, rfl, HLe, HR⟩ := hrel
      by_cases hlt : j < gs.length
      · have hgj : gs[j]? = some gs[j] := List.getElem?_eq_getElem hlt
        have hgm := List.getElem_mem hlt
        obtain ⟨t0, r, hg, _, _⟩ := HL.out gs[j] hgm
        obtain ⟨lb, aj, cj, rfl, hlb, hcell, hTj, hcapj, hvj⟩ := HR.out.lns.at j _ hgj
        obtain ⟨hd1, hd2⟩ := HBd.out j (by omega)
        have hbd := HBd.out (j + 1) (by omega)
        have hdep : (neatN gs j).2 ≤ 9000000 := Nat.le_trans hd1 (by omega)
        have HLen : Hid ((neatN gs j).1.length ≤ 3000) := HLe.out
        have hgl := HGl.out _ hgm
        have hgz := HSg.out _ hgm
        have hge : gs.getD j [] = gs[j] := by simp [List.getD, hgj]
        have HO : Hid ((neatN gs (j + 1)).1 = ((neatN gs j).1 ++ padF (marginF gs[j] (neatN gs j).2)) ++ writtenF gs[j]) := by
          show _ = _
          show (neatN gs j).1 ++ lineF (gs.getD j []) _ = _
          rw [hge]; unfold lineF; rw [List.append_assoc]
        have HD : Hid ((neatN gs (j + 1)).2 = behindF gs[j] (neatN gs j).2) := by
          show _ = _
          show behindF (gs.getD j []) _ = _
          rw [hge]
        rw [hg] at hcell hTj hcapj hgl hgz HO HD
        have hml := marginF_le (t0 :: r) (neatN gs j).2
        have HMg := hid (margin_any aj cj t0 r (neatN gs j).2 wr hTj (by omega))
        have HTj := hid hTj
        have HOv : Hid (3000 < (neatN gs (j + 1)).1.length → 3000 < (neatL gs).length) := fun h => neat_out (by omega) h
        have HGz := hid hgz
        have HWl := hid (writtenF_le (t0 :: r) hgz)
        generalize hoj : (neatN gs j).1 = oj at HR HLen HO
        generalize hdj : (neatN gs j).2 = dj at hdep HO HD hml HMg ⊢
        generalize hoj2 : (neatN gs (j + 1)).1 = oj2 at HO HOv
        have HJ2 := hid hoj2
        generalize hmg : marginF (t0 :: r) dj = mg at HO HMg hml
        have hlr : (t0 :: r).length = r.length + 1 := rfl
        have HTa : Hid (∀ W out, NtSt w B out gs vs (.slice (some ⟨lb, 0, none⟩) gs.length lc) W → TAt W aj (t0 :: r)) := fun W out h => by rw [← hg]; exact h.lns.tat hgj hvj
        clear HLe hvj hoj hdj hoj2 hd1 hd2 hbd hgj hgm hge hg hTj hgz hmg hcapj
        go_wp2_with fail
        refine HMg.out.mono ?_
        rintro e wm ⟨rfl, rfl⟩
        go_wp2_with fail
        refine (Tryd.strings_Repeat ⟨#[32, 32]⟩ mg _ (by omega) (by show 2 * mg ≤ _; omega)).mono ?_
        rintro e w5 ⟨rfl, hb5⟩
        rw [show (⟨#[32, 32]⟩ : ByteArray).data.toList = [32, 32] from rfl, pad_repeat]
        have HR5 := hid (HR.out.below hb5)
        have HT5 := hid (HTj.out.below hb5)
        have hpl : (padF mg).toArray.size ≤ 20000000 := by unfold padF; simp; omega
        have HW5 := hid (WriteString_any B B oj ⟨(padF mg).toArray⟩ w5 HR5.out.bld (by show _ + (padF mg).toArray.size ≤ _; have := HLen.out; omega) (Nat.le_of_lt HR5.out.hi))
        rw [show (⟨(padF mg).toArray⟩ : ByteArray).data.toList = padF mg by simp] at HW5
        clear hb5 HTj HR HMg
        go_wp2_with fail
        refine HW5.out.mono ?_
        rintro e w6 ⟨⟨v6, rfl⟩, hI6, hb6, hk6⟩
        have HR6 := hid (HR5.out.write hI6 hb6 hk6)
        have HE6 := hid (HEn.out w6 HR6.out.old)
        have HWr := hid (written_any aj cj (t0 :: r) (by simp) w6 HE6.out (HTa.out _ _ HR6.out) hgl HGz.out)
        rw [hlr] at HWr
        clear hI6 hb6 hk6 HR5 HT5 HW5
        go_wp2_with fail
        refine HWr.out.mono ?_
        rintro e w7 ⟨rfl, hb7⟩
        have HR7 := hid (HR6.out.below hb7)
        have hwl : (writtenF (t0 :: r)).toArray.size ≤ 20000000 := by have := HWl.out; simp; omega
        have HW7 := hid (WriteString_any B B (oj ++ padF mg) ⟨(writtenF (t0 :: r)).toArray⟩ w7 HR7.out.bld (by show _ + (writtenF (t0 :: r)).toArray.size ≤ _; have := HLen.out; rw [List.length_append]; simp at hpl hwl ⊢; omega) (Nat.le_of_lt HR7.out.hi))
        rw [show (⟨(writtenF (t0 :: r)).toArray⟩ : ByteArray).data.toList = writtenF (t0 :: r) by simp, ← HO.out] at HW7
        clear hb7 HR6 HWr HE6
        go_wp2_with fail
        refine HW7.out.mono ?_
        rintro e w8 ⟨⟨v8, rfl⟩, hI8, hb8, hk8⟩
        have HR8 := hid (HR7.out.write hI8 hb8 hk8)
        have HLn8 := hid (Tryd.Builder_Len B B (Lib.byteCells oj2) w8 hI8)
        rw [Lib.byteCells_length] at HLn8
        have HBh := hid (behind_any aj cj t0 r dj w8 (HTa.out _ _ HR8.out) (by omega))
        rw [hlr] at HBh
        clear hI8 hb8 hk8 HR7 HW7
        go_wp2_with fail
        refine HLn8.out.mono ?_
        rintro e wm ⟨rfl, rfl⟩
        by_cases hov : 3000 < oj2.length
        · have hovi : (3000 : Int) < (oj2.length : Int) := by omega
          obtain ⟨z0, z1, z2, z3, z4, z5⟩ := HR8.out.res.facts
          have hrl := lt_of_block HR8.out.res
          rw [if_pos (HOv.out hov)] at HN
          go_wp2_with fail
          refine bodyPost_ret (text_ret (HR8.out.res.set _ _ _) _ rfl rfl) rfl ⟨by rw [HN.out]; rfl, FNx.frame HR8.out.old (Nat.le_refl _) _ _ _⟩
        · have hovi : ¬ (3000 : Int) < (oj2.length : Int) := by omega
          go_wp2_with fail
          refine HBh.out.mono ?_
          rintro e w9 ⟨rfl, hb9⟩
          have HR9 := hid (HR8.out.below hb9)
          rw [← HD.out]
          clear hb9
          go_wp2_with fail
          exact ⟨⟨j + 1, by omega, by go_num, rfl, by show _ ≤ _; rw [HJ2.out]; omega, by rw [HJ2.out]; exact HR9.out⟩, by simp [intOf]; omega⟩
      · obtain rfl : j = gs.length := by omega
        have HV := hid (Tryd.Builder_String_any B B _ wr HR.out.bld (Nat.le_of_lt HR.out.hi))
        have hlo := HR.out.lo
        have HOld := hid HR.out.old
        have HRes := hid HR.out.res
        rw [if_neg (by have := HLe.out; show ¬ 3000 < (neatN gs gs.length).1.length; omega)] at HN
        rw [show neatL gs = (neatN gs gs.length).1 from rfl] at HN
        generalize (neatN gs gs.length).1 = oj at HV HN
        clear HR HS HLe
        go_wp2_with fail
        refine HV.out.mono ?_
        rintro e w9 ⟨rfl, hb9⟩
        have HF9 := hid (HRes.out.low hb9 hlo)
        have HB9 := hid (HOld.out.trans (hb9.mono (Nat.le_of_lt hlo)))
        obtain ⟨z0, z1, z2, z3, z4, z5⟩ := HF9.out.facts
        have hrl := lt_of_block HF9.out
        clear hb9 HV
        go_wp2_with fail
        exact bodyPost_ret (text_ret (HF9.out.set _ _ _) _ rfl rfl) rfl ⟨by rw [HN.out]; rfl, FNx.frame HB9.out (Nat.le_refl _) _ _ _⟩
  · have hfb : (f0 != 0) = true := by simpa using hf
    rw [if_pos hf] at HN
    go_enter Tryd.func6, Tryd.ntmps6
    go_wp2_with fail
    refine HT.out.mono ?_
    rintro e w1 ⟨a1, c1, rfl, hT1, hb1, hcap1⟩
    have HB1 := hid (HB0.out.trans (hb1.mono HB0.out.size))
    have HF1 := hid (HF0.out.below hb1)
    have HB2 := hid (HB1.out.alloc HB1.out.size (.cells #[.int .i64 f0, .int .i64 f1, .int .i64 f2] 24))
    have HBx := hid ((Below.refl _ w1).alloc (Nat.le_refl _) (.cells #[.int .i64 f0, .int .i64 f1, .int .i64 f2] 24))
    have HX := hid (FNx.new w1 f0 f1 f2)
    have HF2 := hid (HF1.out.below HBx.out)
    have hlt := lt_of_block HF1.out
    clear HT HB0 HF0 hT1 HF1 HBx hb1 hf HL HFl
    go_wp2_with fail
    generalize w1.alloc (.cells #[.int .i64 f0, .int .i64 f1, .int .i64 f2] 24) = w2 at HB2 HX HF2 ⊢
    obtain ⟨x0, x1, x2, _⟩ := HX.out.facts
    obtain ⟨z0, z1, z2, z3, z4, z5⟩ := HF2.out.facts
    go_region
    go_wp2_with fail
    exact bodyPost_ret (text_ret (FNx.drew (HF2.out.set _ _ _)) _ rfl rfl) rfl ⟨by rw [HN.out]; rfl, (FNx.frame HB2.out (Nat.le_refl _) _ _ _).drew⟩
end Go.Proofs.YtoedgcpfomgagaaDoor
