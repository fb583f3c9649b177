/- Walk of the document's own Format. -/
import Derived.Test.YtoedgcpfomgagaaDoorNtText
import Derived.Test.YtoedgcpfomgagaaDoorRxJoin
import Derived.Deep.CutBlock
import Derived.Deep.DeepCutAuto
namespace Go.Proofs.YtoedgcpfomgagaaDoor
open Go.RowKit Go.Shelf

theorem aheadN_lt (gs : List (List Tk)) (hne : ∀ g ∈ gs, g ≠ []) (j : Nat) (hj : j < gs.length) : aheadN gs j < gs.flatten.length := by
  have h := (line_at gs j gs[j] (List.getElem?_eq_getElem hj)).2
  have h2 : gs[j].length ≠ 0 := fun e => hne gs[j] (List.getElem_mem hj) (List.eq_nil_of_length_eq_zero e)
  omega
/-- A line among all tokens: where it stands, and that another one begins behind it, or none. -/
theorem line_facts (gs : List (List Tk)) (hok : ∀ g ∈ gs, lineOk g) (j : Nat) (hj : j < gs.length) :
    ∃ t0 r, gs[j] = t0 :: r ∧ (∀ x ∈ r, x.first = false) ∧ aheadN gs j + (r.length + 1) ≤ gs.flatten.length ∧ aheadN gs (j + 1) = aheadN gs j + (r.length + 1) ∧
      (∀ k, k < r.length + 1 → gs.flatten[aheadN gs j + k]? = (t0 :: r)[k]?) ∧ (∀ x, gs.flatten[aheadN gs j + (r.length + 1)]? = some x → x.first = true) := by
  have hg := List.getElem?_eq_getElem hj
  obtain ⟨t0, r, e, _, hr⟩ := hok gs[j] (List.getElem_mem hj)
  obtain ⟨h1, h2⟩ := line_at gs j _ hg
  have h3 := aheadN_succ gs j _ hg
  rw [e] at h1 h2 h3
  have hl : (t0 :: r).length = r.length + 1 := rfl
  rw [hl] at h1 h2 h3
  refine ⟨t0, r, e, hr, h2, h3, fun k hk => ?_, fun x hx => ?_⟩
  · rw [← h1, List.getElem?_take, if_pos hk, List.getElem?_drop]
  · rw [← h3] at hx
    have hlt : aheadN gs (j + 1) < gs.flatten.length := (List.getElem?_eq_some_iff.1 hx).1
    have hj1 : j + 1 < gs.length := by
      apply Classical.byContradiction
      intro hn
      have : j + 1 = gs.length := by omega
      rw [this, aheadN_all] at hlt
      omega
    have hg1 := List.getElem?_eq_getElem hj1
    obtain ⟨t1, r1, e1, hf1, _⟩ := hok gs[j + 1] (List.getElem_mem hj1)
    obtain ⟨q1, q2⟩ := line_at gs (j + 1) _ hg1
    rw [e1] at q1
    have q3 : (t1 :: r1)[0]? = some t1 := rfl
    rw [← q1, List.getElem?_take, if_pos (by simp), List.getElem?_drop, Nat.add_zero, hx] at q3
    injection q3 with q3
    rw [q3]; exact hf1
theorem TAt.part {w : World} {b off : Nat} {ts : List Tk} (hb : b < w.heap.size) (hc : ∀ (k : Nat) x, ts[k]? = some x → ∀ (i : Nat) v, (encT x)[i]? = some v → w.cell? ⟨b, off + k * 11 + i, none⟩ = some v) (n : Nat) (g : List Tk) (h : ∀ k, k < g.length → ts[n + k]? = g[k]?) : TAt w (some ⟨b, off + n * 11, none⟩) g :=
  .inr ⟨b, off + n * 11, rfl, hb, fun k x hx i v hv => by
    have hk : k < g.length := (List.getElem?_eq_some_iff.1 hx).1
    have := hc (n + k) x ((h k hk).trans hx) i v hv
    rw [Nat.add_mul, ← Nat.add_assoc] at this
    exact this⟩

theorem cat_run (x y : List UInt8) (W : World) (h : x.length + y.length ≤ 100000000000000) : (Op.stringOp .add ⟨x.toArray⟩ ⟨y.toArray⟩).run Tryd.prog W = .ok (.string ⟨(x ++ y).toArray⟩) W := by
  rw [run_string_add_sum W _ _ (by show x.toArray.size + y.toArray.size ≤ _; simp; omega)]
  congr 2
  first | done | (apply ByteArray.ext; apply Array.ext'; rw [ByteArray.data_append, Array.toList_append]; simp)
theorem round_lt {n m T : Nat} (h : T - (n + (m + 1)) < T - n) : T - (intOf (Value.int .i64 ((n : Int) + ((m : Int) + 1)))).toNat < T - (intOf (Value.int .i64 (n : Int))).toNat := by
  rw [show intOf (Value.int .i64 ((n : Int) + ((m : Int) + 1))) = ((n + (m + 1) : Nat) : Int) by simp [intOf], show intOf (Value.int .i64 (n : Int)) = (n : Int) from rfl, Int.toNat_natCast, Int.toNat_natCast]
  exact h
theorem padF_succ (n : Nat) : padF n ++ [32, 32] = padF (n + 1) := by
  unfold padF
  rw [show 2 * (n + 1) = 2 * n + 2 by omega, ← List.replicate_append_replicate]
  rfl

set_option maxRecDepth 100000 in
set_option maxHeartbeats 20000000 in
theorem RFormat_of (hR : RToks) (s : ByteArray) (w : World) :
    Calls Tryd.prog 7 #[.string s] w fun e w' => e = .returned (.tuple #[.string ⟨(neatF s.data.toList).1.toArray⟩, faultV (neatF s.data.toList).2]) ∧ Below w.heap.size w w' := by
  have HN : Hid (neatF s.data.toList = if (toksF 0 s.data.toList).2.1 ≠ 0 then ([], (toksF 0 s.data.toList).2)
    else if 3000 < (neatL (linesF (toksF 0 s.data.toList).1)).length then ([], (4, 0, 0)) else (neatL (linesF (toksF 0 s.data.toList).1), (0, -1, 0))) := rfl
  have HFew := hid (toks_few 0 s.data.toList)
  have HSm := hid (toks_small 0 s.data.toList)
  have HHd := hid (toks_head 0 s.data.toList)
  have HSi := hid (toks_signed 0 s.data.toList)
  have hB0 := (Below.refl w.heap.size w).alloc (Nat.le_refl _) (.cells #[.int .i64 0, .int .i64 0, .int .i64 0] 24)
  have HT := hid (hR 0 s (w.alloc (.cells #[.int .i64 0, .int .i64 0, .int .i64 0] 24)))
  have HF0 := hid (FNx.new w 0 0 0)
  have HB0 := hid hB0
  unfold TokPost faultV at HT
  unfold faultV
  have HL := hid (linesF_ok (toksF 0 s.data.toList).1 HHd.out)
  have HFl := hid (linesF_flat (toksF 0 s.data.toList).1)
  clear hB0 HHd
  generalize neatF s.data.toList = nf at HN ⊢
  generalize (toksF 0 s.data.toList).1 = ts at *
  generalize (toksF 0 s.data.toList).2 = F at *
  obtain ⟨f0, f1, f2⟩ := F
  dsimp only at HN HT
  by_cases hf : f0 = 0
  · subst hf
    rw [if_neg (by simp)] at HN
    go_enter Tryd.func7, Tryd.ntmps7
    go_wp2_with fail
    refine HT.out.mono ?_
    rintro e w1 ⟨a1, c1, rfl, hT1, hb1, hcap1⟩
    have HB1 := hid (HB0.out.trans (hb1.mono HB0.out.size))
    have HF1 := hid (HF0.out.below hb1)
    have HB2 := hid (HB1.out.alloc HB1.out.size (.cells #[.int .i64 0, .int .i64 f1, .int .i64 f2] 24))
    have HBx := hid ((Below.refl _ w1).alloc (Nat.le_refl _) (.cells #[.int .i64 0, .int .i64 f1, .int .i64 f2] 24))
    have HTk := hid (hT1.below HBx.out)
    have HF2 := hid (HF1.out.below HBx.out)
    have hts := HFew.out
    have hgl : (linesF ts).length ≤ 3000 ∧ ∀ g ∈ linesF ts, g.length ≤ 3000 := by
      have h := lines_len ts ts.length (Nat.le_refl _)
      rw [List.take_length] at h
      exact ⟨by omega, fun g hg => by have := h.2 g hg; omega⟩
    have HSg : Hid (∀ g ∈ linesF ts, ∀ t ∈ g, t.text.size ≤ 3000) := fun g hg t ht => HSm.out t (by rw [← HFl.out]; exact List.mem_flatten.2 ⟨g, hg, ht⟩)
    clear HT HB0 HF0 hT1 HF1 HBx hb1
    go_wp2_with fail
    generalize w1.alloc (.cells #[.int .i64 0, .int .i64 f1, .int .i64 f2] 24) = w2 at HB2 HTk HF2 ⊢
    clear HB1
    generalize linesF ts = gs at HN HL HFl hgl HSg
    have HBd := hid (neatN_le gs 3000 (fun g hg => ⟨hgl.2 g hg, HSg.out g hg⟩))
    have hgl1 := hgl.1
    have HGl := hid hgl.2
    clear hgl
    go_loopw [6, 7, 8] (fun o dv x wr => ∃ j : Nat, j ≤ gs.length ∧ x = .int .i64 (aheadN gs j : Nat) ∧ o = .string ⟨(neatN gs j).1.toArray⟩ ∧ dv = .int .i64 ((neatN gs j).2 : Nat) ∧ Hid (Below w2.heap.size w2 wr)) (fun _ _ x _ => ts.length - (intOf x).toNat)
    case atStart => exact ⟨0, Nat.zero_le _, rfl, rfl, rfl, Below.refl _ _⟩
    case round =>
      obtain ⟨j, hj, rfl, rfl, rfl, HR⟩ := hrel
      by_cases hlt : j < gs.length
      · obtain ⟨t0, r, hg, hfr, hn1, hn2, hat, hnx⟩ := line_facts gs HL.out j hlt
        rw [HFl.out] at hn1 hat hnx
        generalize hn : aheadN gs j = n at hn1 hn2 hat hnx ⊢
        have hni : (n : Int) < (ts.length : Int) := by omega
        rcases HTk.out with h | ⟨b0, off, ha, hb0, hc⟩
        · rw [h] at hni; simp at hni; omega
        subst ha
        have HTc : Hid (∀ W, Below w2.heap.size w2 W → ∀ (k : Nat) x, ts[k]? = some x → ∀ (i : Nat) v, (encT x)[i]? = some v → W.cell? ⟨b0, off + k * 11 + i, none⟩ = some v) := fun W hW k x hx i v hv => (hW.cell (p := ⟨b0, _, none⟩) hb0).trans (hc k x hx i v hv)
        have hbr : b0 < wr.heap.size := Nat.lt_of_lt_of_le hb0 HR.out.size
        obtain ⟨wo, hwo⟩ : ∃ wo, wo = wr := ⟨_, rfl⟩
        have HAt := hid hat
        have HNx := hid hnx
        have HFr := hid hfr
        clear hat hnx hfr hc
        go_upto_block 2 with fail
        go_cut [9] (fun x wx => x = .int .i64 ((n + (r.length + 1) : Nat) : Int) ∧ wo = wx)
        case first =>
          subst hwo
          go_wp2_with fail
          go_loopw [9] (fun x wq => ∃ k : Nat, n + 1 ≤ k ∧ k ≤ n + (r.length + 1) ∧ x = .int .i64 k ∧ wo = wq) (fun x _ => ts.length - (intOf x).toNat)
          case atStart => exact ⟨n + 1, Nat.le_refl _, by omega, by go_num, rfl⟩
          case round =>
            obtain ⟨k, hk1, hk2, rfl, rfl⟩ := hrel
            have hk0 : (0 : Int) ≤ (k : Int) := by omega
            by_cases hkl : k < n + (r.length + 1)
            · have hki : (k : Int) < (ts.length : Int) := by omega
              have hkd : decide ((k : Int) < (ts.length : Int)) = true := decide_eq_true hki
              have hx : ts[k]? = some (r[k - (n + 1)]'(by omega)) := by
                have h1 := HAt.out (k - n) (by omega)
                rw [show n + (k - n) = k by omega] at h1
                rw [h1, show k - n = (k - (n + 1)) + 1 by omega, List.getElem?_cons_succ]
                exact List.getElem?_eq_getElem (by omega)
              have hcx := HTc.out _ HR.out k _ hx 3 _ rfl
              rw [HFr.out _ (List.getElem_mem (by omega))] at hcx
              go_wp2_with fail
              go_roundw
              case rel => exact ⟨k + 1, by omega, by omega, by go_num, trivial⟩
              case measure => simp [intOf]; omega
            · obtain rfl : k = n + (r.length + 1) := by omega
              generalize hkk : n + (r.length + 1) = k at hn1 hn2 hk0 HNx ⊢
              have HKk := hid hkk
              clear hkk hk1 hk2 hkl
              by_cases hke : k < ts.length
              · have hki : (k : Int) < (ts.length : Int) := by omega
                have hkd : decide ((k : Int) < (ts.length : Int)) = true := decide_eq_true hki
                have hx : ts[k]? = some ts[k] := List.getElem?_eq_getElem hke
                have hcx := HTc.out _ HR.out k _ hx 3 _ rfl
                rw [HNx.out _ hx] at hcx
                clear hx
                go_wp2_with fail
                go_meet
                exact ⟨congrArg (fun z : Nat => Value.int .i64 (z : Int)) HKk.out.symm, rfl⟩
              · have hki : ¬ (k : Int) < (ts.length : Int) := by omega
                have hkd : decide ((k : Int) < (ts.length : Int)) = false := decide_eq_false hki
                go_wp2_with fail
                go_meet
                exact ⟨congrArg (fun z : Nat => Value.int .i64 (z : Int)) HKk.out.symm, rfl⟩
        case rest =>
          obtain ⟨rfl, rfl⟩ := hcut
          have hlen : (t0 :: r).length = r.length + 1 := rfl
          have HTg : Hid (∀ W, Below w2.heap.size w2 W → TAt W (some ⟨b0, off + n * 11, none⟩) (t0 :: r)) := fun W hW => TAt.part (Nat.lt_of_lt_of_le hb0 hW.size) (HTc.out W hW) n (t0 :: r) (by rw [hlen]; exact HAt.out)
          have hs1 : (n : Int) ≤ ((n + (r.length + 1) : Nat) : Int) := by omega
          have hs2 : ((n + (r.length + 1) : Nat) : Int) ≤ (ts.length : Int) := by omega
          have hs3 : ((n + (r.length + 1) : Nat) : Int) ≤ (c1 : Int) := by omega
          have hgz := HSg.out _ (List.getElem_mem hlt)
          have hgm := List.getElem_mem hlt
          have hgl := HGl.out _ hgm
          have HSt : Hid (Signed (t0 :: r)) := fun t ht => HSi.out t (by rw [← HFl.out]; exact List.mem_flatten.2 ⟨_, hgm, by rw [hg]; exact ht⟩)
          obtain ⟨hd1, hd2⟩ := HBd.out j (by omega)
          have hdep : (neatN gs j).2 ≤ 9000000 := Nat.le_trans hd1 (by omega)
          have HLen : Hid ((neatN gs j).1.length ≤ 100000000000) := Nat.le_trans hd2 (by
            have : j * 3000 ≤ 3000 * 3000 := Nat.mul_le_mul (by omega) (Nat.le_refl _)
            exact Nat.le_trans (Nat.mul_le_mul (show j ≤ 3000 by omega) (show 2 * (j * 3000) + (3000 * 3001 + 2) ≤ 2 * (3000 * 3000) + (3000 * 3001 + 2) by omega)) (by decide))
          have hge : gs.getD j [] = gs[j] := by simp [List.getD, List.getElem?_eq_getElem hlt]
          have HO : Hid ((neatN gs (j + 1)).1 = ((neatN gs j).1 ++ padF (marginF gs[j] (neatN gs j).2)) ++ writtenF gs[j]) := by
            show _ = _
            show (neatN gs j).1 ++ lineF (gs.getD j []) _ = _
            rw [hge]; unfold lineF; rw [List.append_assoc]
          have HD : Hid ((neatN gs (j + 1)).2 = behindF gs[j] (neatN gs j).2) := by
            show _ = _
            show behindF (gs.getD j []) _ = _
            rw [hge]
          rw [hg] at hgz hgl HO HD
          have hml := marginF_le (t0 :: r) (neatN gs j).2
          have HGz := hid hgz
          have HWl := hid (writtenF_le (t0 :: r) hgz)
          rw [hlen] at hgl
          have HNs := hid hn2
          go_wp2_with fail
          rw [show n + (r.length + 1) - n = r.length + 1 by omega]
          generalize off + n * 11 = o2 at HTg ⊢
          generalize c1 - n = c2
          generalize hoj : (neatN gs j).1 = oj at HLen HO ⊢
          generalize hdj : (neatN gs j).2 = dj at hdep HO HD hml ⊢
          generalize hoj2 : (neatN gs (j + 1)).1 = oj2 at HO
          generalize hdj2 : (neatN gs (j + 1)).2 = dj2 at HD
          have HJ2 := hid (And.intro hoj2 hdj2)
          have HHd : Hid (opensN (t0 :: r) dj 0 = dj) := rfl
          have HRo := hid HR.out
          clear hd1 hd2 hoj hdj hoj2 hdj2 hge hg hgz hgm HAt HNx HFr HTc HR hn1 hn2 hs1 hs2 hs3 hwo hbr
          go_loopw [12, 53] (fun y x wq => ∃ k : Nat, k ≤ r.length + 1 ∧ x = .int .i64 k ∧ y = .int .i64 (opensN (t0 :: r) dj k : Nat) ∧ Hid (Below w2.heap.size w2 wq)) (fun _ x _ => (r.length + 1) - (intOf x).toNat)
          case atStart => exact ⟨0, Nat.zero_le _, rfl, rfl, HRo.out⟩
          case round =>
            obtain ⟨k, hk, rfl, rfl, HQ⟩ := hrel
            by_cases hkl : k < r.length + 1
            · have hxk : (t0 :: r)[k]? = some ((t0 :: r)[k]'(by rw [hlen]; exact hkl)) := List.getElem?_eq_getElem _
              rcases HTg.out _ HQ.out with h | ⟨b1, o1, he, hb1, hc1⟩
              · cases h
              cases he
              have hcx := hc1 k _ hxk
              have HOp := hid (opensN_succ (t0 :: r) dj k _ hxk)
              have hle := opensN_le (t0 :: r) dj k
              rw [hlen] at hle
              have hsg := HSt.out _ (List.mem_of_getElem? hxk)
              generalize (t0 :: r)[k]'(by rw [hlen]; exact hkl) = t at hcx HOp hsg
              have HT : Hid (∀ e, openT e t = if isB t 123 then e + 1 else if isB t 125 then e - 1 else e) := fun _ => rfl
              have hy1 : isB t 123 = true → t.kind = 5 := hsg 123 (by decide)
              have hy2 : isB t 125 = true → t.kind = 5 := hsg 125 (by decide)
              have hy3 : isB t 123 = true → isB t 125 = false := fun h => isB_ne h (by decide)
              have hb1' : (t.text.toList == [123]) = isB t 123 := rfl
              have hb2' : (t.text.toList == [125]) = isB t 125 := rfl
              generalize isB t 123 = y1 at HT hy1 hy3 hb1'
              generalize isB t 125 = y2 at HT hy2 hy3 hb2'
              obtain ⟨tk, tt, tsp, tfi, tf, tl, th, tn⟩ := t
              have q0 := hcx 0 _ rfl
              have q1 := hcx 1 _ rfl
              have q2 := hcx 2 _ rfl
              have q3 := hcx 3 _ rfl
              have q4 := hcx 4 _ rfl
              have q5 := hcx 5 _ rfl
              have q6 := hcx 6 _ rfl
              have q7 := hcx 7 _ rfl
              have q8 := hcx 8 _ rfl
              have q9 := hcx 9 _ rfl
              have q10 := hcx 10 _ rfl
              simp only [Nat.add_zero] at q0
              dsimp only at hb1' hb2' hy1 hy2
              have HB2 := hid (HQ.out.alloc HQ.out.size (.cells #[.int .i64 tk, .string tt, .bool tsp, .bool tfi, .int .i64 tf, .int .i64 tl, .int .i64 th, .int .i64 tn, .slice none 0 0, .slice none 0 0, .int .i64 0] 35))
              have HO2 : Hid (opensN (t0 :: r) dj (k + 1) = if y1 then opensN (t0 :: r) dj k + 1 else if y2 then opensN (t0 :: r) dj k - 1 else opensN (t0 :: r) dj k) := HOp.out.trans (HT.out _)
              generalize opensN (t0 :: r) dj k = o at hle HO2 ⊢
              generalize ho2 : opensN (t0 :: r) dj (k + 1) = oo at HO2
              have HE2 := hid ho2
              clear hcx hxk HT HOp ho2 hc1 hsg HQ
              cases y1 with
              | true =>
                obtain rfl : tk = 5 := hy1 rfl
                obtain rfl : y2 = false := hy3 rfl
                have HO3 : Hid (oo = o + 1) := HO2.out
                clear hy1 hy2 hy3 HO2
                go_wp2_with fail
                go_roundw
                case rel => exact ⟨k + 1, by omega, by go_num, by rw [HE2.out, HO3.out]; go_num, HB2.out⟩
                case measure => simp [intOf]; omega
              | false =>
                cases y2 with
                | true =>
                  obtain rfl : tk = 5 := hy2 rfl
                  have HO3 : Hid (oo = o - 1) := HO2.out
                  clear hy1 hy2 hy3 HO2
                  by_cases ho : o = 0
                  · subst ho
                    go_wp2_with fail
                    go_roundw
                    case rel => exact ⟨k + 1, by omega, by go_num, by rw [HE2.out, HO3.out], HB2.out⟩
                    case measure => simp [intOf]; omega
                  · obtain ⟨p, rfl⟩ : ∃ p, o = p + 1 := ⟨o - 1, by omega⟩
                    have hop : (0 : Int) < ((p + 1 : Nat) : Int) := by omega
                    have hopd : decide ((0 : Int) < ((p + 1 : Nat) : Int)) = true := decide_eq_true hop
                    have hww : IntKind.i64.wrap (((p + 1 : Nat) : Int) - 1) = (p : Int) := by rw [IntKind.wrap_i64]; omega
                    clear ho
                    generalize ((p + 1 : Nat) : Int) = pi at hop hopd hww ⊢
                    go_wp2_with fail
                    go_roundw
                    case rel => exact ⟨k + 1, by omega, by go_num, by rw [HE2.out, HO3.out]; rfl, HB2.out⟩
                    case measure => simp [intOf]; omega
                | false =>
                  have HO3 : Hid (oo = o) := HO2.out
                  clear hy1 hy2 hy3 HO2
                  have hkb : (tk == 5) = decide (tk = 5) := by rfl
                  by_cases h5 : tk = 5
                  · subst h5
                    go_wp2_with fail
                    go_roundw
                    case rel => exact ⟨k + 1, by omega, by go_num, by rw [HE2.out, HO3.out], HB2.out⟩
                    case measure => simp [intOf]; omega
                  · rw [decide_eq_false h5] at hkb
                    go_wp2_with fail
                    go_roundw
                    case rel => exact ⟨k + 1, by omega, by go_num, by rw [HE2.out, HO3.out], HB2.out⟩
                    case measure => simp [intOf]; omega
            · obtain rfl : k = r.length + 1 := by omega
              rw [opensN_all (t0 :: r) dj (r.length + 1) (by rw [hlen]; exact Nat.le_refl _)]
              rcases HTg.out _ HQ.out with h | ⟨b1, o1, he, hb1, hc1⟩
              · cases h
              cases he
              have q0 := hc1 0 t0 rfl 0 _ rfl
              have q1 := hc1 0 t0 rfl 1 _ rfl
              simp only [Nat.zero_mul, Nat.add_zero] at q0 q1
              have HM : Hid (marginF (t0 :: r) dj = if isB t0 35 then 0 else if isB t0 125 then dj - 1 else dj) := rfl
              have HBh : Hid (behindF (t0 :: r) dj = if isB t0 35 then dj else (t0 :: r).foldl openT dj) := rfl
              have hsg := HSt.out t0 (by simp)
              have hy1 : isB t0 35 = true → t0.kind = 5 := hsg 35 (by decide)
              have hy2 : isB t0 125 = true → t0.kind = 5 := hsg 125 (by decide)
              have hb1' : (t0.text.toList == [35]) = isB t0 35 := rfl
              have hb2' : (t0.text.toList == [125]) = isB t0 125 := rfl
              generalize isB t0 35 = y1 at HM HBh hy1 hb1'
              generalize isB t0 125 = y2 at HM hy2 hb2'
              generalize hmg : marginF (t0 :: r) dj = mg at HM hml HO
              generalize hbh : behindF (t0 :: r) dj = bh at HBh HD
              generalize (t0 :: r).foldl openT dj = fo at HBh ⊢
              generalize t0.kind = tk at q0 hy1 hy2
              generalize t0.text = tt at q1 hb1' hb2'
              have hbr : b0 < wr.heap.size := hb1
              obtain ⟨wo, hwo⟩ : ∃ wo, wo = wr := ⟨_, rfl⟩
              have hdj0 : (0 : Int) ≤ (dj : Int) := by omega
              clear hc1 hsg hmg hbh hkl hk
              go_upto_region 21 with fail
              go_cut [93] (fun a wx => a = .bool y1 ∧ wo = wx)
              case first =>
                subst hwo
                cases y1 with
                | true =>
                  obtain rfl : tk = 5 := hy1 rfl
                  go_wp2_with fail
                  go_meet
                  exact ⟨rfl, rfl⟩
                | false =>
                  have hkb : (tk == 5) = decide (tk = 5) := by rfl
                  by_cases h5 : tk = 5
                  · subst h5
                    go_wp2_with fail
                    go_meet
                    exact ⟨rfl, rfl⟩
                  · rw [decide_eq_false h5] at hkb
                    go_wp2_with fail
                    go_meet
                    exact ⟨rfl, rfl⟩
              case rest =>
                obtain ⟨rfl, rfl⟩ := hcut
                subst hwo
                obtain ⟨wp, hwp⟩ : ∃ wp, wp = wo := ⟨_, rfl⟩
                go_upto_if 93 with fail
                go_cut [11, 12] (fun a b wx => a = .int .i64 (mg : Nat) ∧ b = .int .i64 (bh : Nat) ∧ wp = wx)
                case first =>
                  subst hwp
                  cases y1 with
                  | true =>
                    go_wp2_with fail
                    go_meet
                    exact ⟨by rw [HM.out]; rfl, by rw [HBh.out]; rfl, rfl⟩
                  | false =>
                    have HBo : Hid (bh = fo) := HBh.out
                    cases y2 with
                    | true =>
                      obtain rfl : tk = 5 := hy2 rfl
                      have HMo : Hid (mg = dj - 1) := HM.out
                      by_cases ho : dj = 0
                      · subst ho
                        go_wp2_with fail
                        go_meet
                        exact ⟨by rw [HMo.out]; rfl, by rw [HBo.out], rfl⟩
                      · have hop : (0 : Int) < (dj : Int) := by omega
                        have hopd : decide ((0 : Int) < (dj : Int)) = true := decide_eq_true hop
                        have HSb : Hid ((dj : Int) - 1 = ((dj - 1 : Nat) : Int)) := by show _ = _; omega
                        clear ho
                        go_wp2_with fail
                        go_meet
                        exact ⟨by rw [HMo.out]; exact congrArg (Value.int .i64) HSb.out, by rw [HBo.out], rfl⟩
                    | false =>
                      have HMo : Hid (mg = dj) := HM.out
                      have hkb : (tk == 5) = decide (tk = 5) := by rfl
                      by_cases h5 : tk = 5
                      · subst h5
                        go_wp2_with fail
                        go_meet
                        exact ⟨by rw [HMo.out], by rw [HBo.out], rfl⟩
                      · rw [decide_eq_false h5] at hkb
                        go_wp2_with fail
                        go_meet
                        exact ⟨by rw [HMo.out], by rw [HBo.out], rfl⟩
                case rest =>
                  obtain ⟨rfl, rfl, rfl⟩ := hcut
                  subst hwp
                  clear HM HBh hy1 hy2 hb1' hb2' q0 q1
                  have HQo := hid HQ.out
                  have hpl : ∀ k, (padF k).length = 2 * k := fun k => by unfold padF; simp
                  have HPl := hid hpl
                  have hmg2 : mg ≤ 9000000 := by omega
                  have HLj : Hid ((joinL (t0 :: r)).length ≤ 3000 * 3001) := Nat.le_trans (joinN_le (t0 :: r) 3000 HGz.out (t0 :: r).length (Nat.le_refl _)) (Nat.mul_le_mul (by rw [hlen]; exact hgl) (Nat.le_refl _))
                  have HJo := hid (fun W (hW : Below w2.heap.size w2 W) => RJoin_of hR (some ⟨b0, o2, none⟩) c2 (t0 :: r) W (HTg.out W hW) (by rw [hlen]; exact hgl) HGz.out)
                  rw [hlen] at HJo
                  have hlast : (t0 :: r)[r.length]? = some ((t0 :: r)[r.length]'(by simp)) := List.getElem?_eq_getElem _
                  have HEn : Hid (endF (t0 :: r) = if isB ((t0 :: r)[r.length]'(by simp)) 92 then [32, 10] else [10]) := by
                    show _ = _
                    unfold endF
                    rw [hlen, show r.length + 1 - 1 = r.length by omega, List.getD, hlast]
                    rfl
                  have HLa : Hid (∀ W, Below w2.heap.size w2 W → W.cell? ⟨b0, o2 + r.length * 11 + 1, none⟩ = some (.string ((t0 :: r)[r.length]'(by simp)).text)) := fun W hW => by
                    rcases HTg.out W hW with h | ⟨b1, o1, he, _, hc1⟩
                    · cases h
                    · cases he
                      exact hc1 r.length _ hlast 1 _ rfl
                  have hbl : (((t0 :: r)[r.length]'(by simp)).text.toList == [92]) = isB ((t0 :: r)[r.length]'(by simp)) 92 := rfl
                  have HOo : Hid (oj2 = ((oj ++ padF mg) ++ joinL (t0 :: r)) ++ endF (t0 :: r)) := by show _ = _; rw [HO.out]; unfold writtenF; rw [List.append_assoc, List.append_assoc, List.append_assoc]
                  generalize isB ((t0 :: r)[r.length]'(by simp)) 92 = bl at HEn hbl
                  generalize ((t0 :: r)[r.length]'(by simp)).text = ltx at HLa hbl
                  generalize joinL (t0 :: r) = jl at HLj HJo HOo
                  generalize endF (t0 :: r) = ef at HEn HOo
                  clear hlast hpl HO HQ HTg HSt
                  have hq : IntKind.i64.wrap ((r.length : Int) + 1 - 1) = (r.length : Int) := by rw [IntKind.wrap_i64]; omega
                  have hq0 : (0 : Int) ≤ (r.length : Int) := by omega
                  have hq1 : (r.length : Int) < (r.length : Int) + 1 := by omega
                  go_wp2_with fail
                  go_loopw [6, 115] (fun o x wq => ∃ k : Nat, k ≤ mg ∧ x = .int .i64 k ∧ o = .string ⟨(oj ++ padF k).toArray⟩ ∧ Hid (Below w2.heap.size w2 wq)) (fun _ x _ => mg - (intOf x).toNat)
                  case atStart => exact ⟨0, Nat.zero_le _, rfl, by simp [padF], HQo.out⟩
                  case round =>
                    obtain ⟨k, hk, rfl, rfl, HQw⟩ := hrel
                    by_cases hkl : k < mg
                    · have hcat : ∀ W : World, (Op.stringOp .add ⟨(oj ++ padF k).toArray⟩ ⟨#[32, 32]⟩).run Tryd.prog W = .ok (.string ⟨(oj ++ padF (k + 1)).toArray⟩) W := fun W => by
                        rw [cat_run (oj ++ padF k) [32, 32] W (by have := HLen.out; have := HPl.out k; simp; omega), List.append_assoc, padF_succ]
                      go_wp2_with fail
                      go_roundw
                      case rel => exact ⟨k + 1, by omega, by go_num, rfl, HQw.out⟩
                      case measure => simp [intOf]; omega
                    · obtain rfl : k = mg := by omega
                      obtain ⟨z, hz⟩ : ∃ z, z = oj ++ padF k ++ jl := ⟨_, rfl⟩
                      have hzl : z.length ≤ 1000000000000 := by rw [hz]; have := HLen.out; have := HPl.out k; have := HLj.out; simp; omega
                      have hcat : ∀ W : World, (Op.stringOp .add ⟨(oj ++ padF k).toArray⟩ ⟨jl.toArray⟩).run Tryd.prog W = .ok (.string ⟨z.toArray⟩) W := fun W => by
                        rw [hz]; exact cat_run (oj ++ padF k) jl W (by have := HLen.out; have := HPl.out k; have := HLj.out; simp; omega)
                      have HZ := hid hz
                      have HZl := hid hzl
                      clear hz hzl
                      go_wp2_with fail
                      refine (HJo.out _ HQw.out).mono ?_
                      rintro e w5 ⟨rfl, hb5⟩
                      have HB5 := hid (HQw.out.trans (hb5.mono HQw.out.size))
                      have hla := HLa.out _ HB5.out
                      have HMs : Hid (ts.length - (n + (r.length + 1)) < ts.length - n) := by show _ < _; omega
                      clear hb5
                      cases bl with
                      | true =>
                        obtain ⟨z2, hz2⟩ : ∃ z2, z2 = z ++ [32] := ⟨_, rfl⟩
                        obtain ⟨z3, hz3⟩ : ∃ z3, z3 = z2 ++ [10] := ⟨_, rfl⟩
                        have HOx : Hid (oj2 = z3) := by show _ = _; rw [HOo.out, HEn.out, hz3, hz2, HZ.out]; simp
                        have hcat2 : ∀ W : World, (Op.stringOp .add ⟨z.toArray⟩ ⟨#[32]⟩).run Tryd.prog W = .ok (.string ⟨z2.toArray⟩) W := fun W => by
                          rw [hz2]; exact cat_run z [32] W (by have := HZl.out; simp; omega)
                        have hcat3 : ∀ W : World, (Op.stringOp .add ⟨z2.toArray⟩ ⟨#[10]⟩).run Tryd.prog W = .ok (.string ⟨z3.toArray⟩) W := fun W => by
                          rw [hz3]; exact cat_run z2 [10] W (by have := HZl.out; rw [hz2]; simp; omega)
                        clear hz2 hz3
                        go_wp2_with fail
                        exact ⟨⟨j + 1, by omega, by rw [HNs.out]; go_num, by rw [HJ2.out.1, HOx.out], by rw [HJ2.out.2, HD.out], HB5.out⟩, round_lt HMs.out⟩
                      | false =>
                        obtain ⟨z3, hz3⟩ : ∃ z3, z3 = z ++ [10] := ⟨_, rfl⟩
                        have HOx : Hid (oj2 = z3) := by show _ = _; rw [HOo.out, HEn.out, hz3, HZ.out]; simp
                        have hcat3 : ∀ W : World, (Op.stringOp .add ⟨z.toArray⟩ ⟨#[10]⟩).run Tryd.prog W = .ok (.string ⟨z3.toArray⟩) W := fun W => by
                          rw [hz3]; exact cat_run z [10] W (by have := HZl.out; simp; omega)
                        clear hz3
                        go_wp2_with fail
                        exact ⟨⟨j + 1, by omega, by rw [HNs.out]; go_num, by rw [HJ2.out.1, HOx.out], by rw [HJ2.out.2, HD.out], HB5.out⟩, round_lt HMs.out⟩
      · obtain rfl : j = gs.length := by omega
        have hall := aheadN_all gs
        rw [HFl.out] at hall
        rw [hall]
        have HLen : Hid ((neatN gs gs.length).1.length ≤ 100000000000) := Nat.le_trans (HBd.out gs.length (Nat.le_refl _)).2 (by
            have : gs.length * 3000 ≤ 3000 * 3000 := Nat.mul_le_mul (by omega) (Nat.le_refl _)
            exact Nat.le_trans (Nat.mul_le_mul hgl1 (show 2 * (gs.length * 3000) + (3000 * 3001 + 2) ≤ 2 * (3000 * 3000) + (3000 * 3001 + 2) by omega)) (by decide))
        rw [show neatL gs = (neatN gs gs.length).1 from rfl] at HN
        generalize (neatN gs gs.length).1 = oj at HN HLen ⊢
        have hll := HLen.out
        have HFz := hid (HF2.out.below HR.out)
        have HBz := hid (HB2.out.trans (HR.out.mono HB2.out.size))
        obtain ⟨z0, z1, z2, z3, z4, z5⟩ := HFz.out.facts
        have hrl := lt_of_block HFz.out
        clear HL HBd HGl HSg hall
        by_cases hov : 3000 < oj.length
        · have hovi : (3000 : Int) < (oj.length : Int) := by omega
          rw [if_pos hov] at HN
          go_wp2_with fail
          exact bodyPost_ret (format_ret (HFz.out.set _ _ _) _ rfl rfl) rfl ⟨by rw [HN.out]; rfl, FNx.frame HBz.out (Nat.le_refl _) _ _ _⟩
        · have hovi : ¬ (3000 : Int) < (oj.length : Int) := by omega
          rw [if_neg hov] at HN
          go_wp2_with fail
          exact bodyPost_ret (format_ret (HFz.out.set _ _ _) _ rfl rfl) rfl ⟨by rw [HN.out]; rfl, FNx.frame HBz.out (Nat.le_refl _) _ _ _⟩
  · have hfb : (f0 != 0) = true := by simpa using hf
    rw [if_pos hf] at HN
    go_enter Tryd.func7, Tryd.ntmps7
    go_wp2_with fail
    refine HT.out.mono ?_
    rintro e w1 ⟨a1, c1, rfl, hT1, hb1, hcap1⟩
    have HB1 := hid (HB0.out.trans (hb1.mono HB0.out.size))
    have HF1 := hid (HF0.out.below hb1)
    have HB2 := hid (HB1.out.alloc HB1.out.size (.cells #[.int .i64 f0, .int .i64 f1, .int .i64 f2] 24))
    have HBx := hid ((Below.refl _ w1).alloc (Nat.le_refl _) (.cells #[.int .i64 f0, .int .i64 f1, .int .i64 f2] 24))
    have HX := hid (FNx.new w1 f0 f1 f2)
    have HF2 := hid (HF1.out.below HBx.out)
    have hlt := lt_of_block HF1.out
    clear HT HB0 HF0 hT1 HF1 HBx hb1 hf HL HFl
    go_wp2_with fail
    generalize w1.alloc (.cells #[.int .i64 f0, .int .i64 f1, .int .i64 f2] 24) = w2 at HB2 HX HF2 ⊢
    obtain ⟨x0, x1, x2, _⟩ := HX.out.facts
    obtain ⟨z0, z1, z2, z3, z4, z5⟩ := HF2.out.facts
    go_region
    go_wp2_with fail
    exact bodyPost_ret (format_ret (FNx.drew (HF2.out.set _ _ _)) _ rfl rfl) rfl ⟨by rw [HN.out]; rfl, (FNx.frame HB2.out (Nat.le_refl _) _ _ _).drew⟩
end Go.Proofs.YtoedgcpfomgagaaDoor
