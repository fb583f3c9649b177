/- Walk of TreeWhole. -/
import Derived.Test.YtocklchafmlfkaaTgI
import Derived.Test.YtocklchafmlfkaaTgJ
import Derived.Maps.RangeWalk
namespace Go.Proofs.Ytocklchafmlfkaa
open Go.RowKit Go.Shelf

theorem tk_cellsW {w : World} {b off : Nat} {x : Tk} {j : Nat} (h : ∀ (i : Nat) v, (encT x)[i]? = some v → w.cell? ⟨b, off + j * 11 + i, none⟩ = some v) :
    w.cell? ⟨b, off + j * 11, none⟩ = some (.int .i64 x.kind) ∧ w.cell? ⟨b, off + j * 11 + 1, none⟩ = some (.string x.text) ∧ w.cell? ⟨b, off + j * 11 + 2, none⟩ = some (.bool x.space) ∧ w.cell? ⟨b, off + j * 11 + 3, none⟩ = some (.bool x.first) ∧ w.cell? ⟨b, off + j * 11 + 4, none⟩ = some (.int .i64 x.file) ∧ w.cell? ⟨b, off + j * 11 + 5, none⟩ = some (.int .i64 x.lo) ∧ w.cell? ⟨b, off + j * 11 + 6, none⟩ = some (.int .i64 x.hi) ∧ w.cell? ⟨b, off + j * 11 + 7, none⟩ = some (.int .i64 x.line) ∧ w.cell? ⟨b, off + j * 11 + 8, none⟩ = some (.slice none 0 0) ∧ w.cell? ⟨b, off + j * 11 + 9, none⟩ = some (.slice none 0 0) ∧ w.cell? ⟨b, off + j * 11 + 10, none⟩ = some (.int .i64 0) :=
  ⟨h 0 _ rfl, h 1 _ rfl, h 2 _ rfl, h 3 _ rfl, h 4 _ rfl, h 5 _ rfl, h 6 _ rfl, h 7 _ rfl, h 8 _ rfl, h 9 _ rfl, h 10 _ rfl⟩

set_option maxRecDepth 100000 in
set_option maxHeartbeats 2000000 in
theorem whole_any (HR : RToks) (s : ByteArray) (w : World) : Calls Try.prog 3 #[.string s] w fun e w' => e = .returned (.bool true) ∧ Below w.heap.size w w' := by
  have HA := hid (aliveT_any HR w)
  have HT := hid (fun W => toksT_any HR s W)
  have HP := hid (fun a c W hT => Parse_any a c (toksF 0 s.data.toList).1 W hT (Nat.le_trans (toks_small 0 s.data.toList).1 (by decide)) (toks_small 0 s.data.toList).2)
  have HLe := hid (toks_lets 0 s.data.toList)
  have HSm := hid (toks_small 0 s.data.toList)
  unfold PrPost aggN at HP
  unfold ToksT at HT
  generalize (toksF 0 s.data.toList).1 = L at *
  clear HR
  go_enter Try.func3, Try.ntmps3
  go_wp2_with fail
  refine HA.out.mono ?_
  rintro e w0 ⟨rfl, hb0⟩
  have HB0 := hid hb0
  clear hb0 HA
  go_wp2_with fail
  refine (HT.out _).mono ?_
  rintro e w1 ⟨a, c, rfl, hT1, hb1, _⟩
  have HB1 := hid (HB0.out.trans (hb1.mono HB0.out.size))
  have HP1 := hid (HP.out a c w1 hT1)
  have HT1 := hid hT1
  clear hT1 hb1 HT HP HB0
  go_wp2_with fail
  cases hp : parsL L with
  | error x =>
    rw [hp] at HP1
    dsimp only [zeroN] at HP1
    have hx0 : (x.1 == 0) = false := beq_eq_false_iff_ne.2 (pars_ne hp)
    refine HP1.out.mono ?_
    rintro e w2 ⟨hb2, rfl⟩
    have HB2 := hid (HB1.out.trans (hb2.mono HB1.out.size))
    have HB3 := hid (HB2.out.trans (((below_new w2 (.cells #[.int .i64 0, .int .i64 0, .slice none 0 0] 27)).trans ((below_new _ (.cells #[.int .i64 x.1, .int .i64 (placeT L x.2).1, .int .i64 (placeT L x.2).2] 30)).mono (by simp))).mono HB2.out.size))
    clear hb2 HP1 HB1 HB2
    go_wp2_with fail
    go_ret
    exact ⟨rfl, HB3.out⟩
  | ok n =>
    have hCov := uni_cov HLe.out _ (by have := pars_is L; rw [hp] at this; exact this) ((Cov.nil L 0).congr fun t => by rw [cntL_nil])
    rw [hp] at HP1
    dsimp only at HP1
    refine HP1.out.mono ?_
    rintro e w2 ⟨hb2, x, rfl, hx⟩
    have HB2 := hid (HB1.out.trans (hb2.mono HB1.out.size))
    obtain ⟨xk, xt, xa, xn, xc⟩ := x
    have hL3 := HSm.out.1
    have hz0 : ∀ t, L.length ≤ t → cntN n t = 0 := fun t ht => (hCov.2 t).1 (.inr ht)
    have hz1 : ∀ t, t < L.length → cntN n t ≤ 1 := fun t ht => ((hCov.2 t).2 (Nat.zero_le _) ht).1
    have hz2 : ∀ t, cntN n t ≤ 1 := fun t => by
      by_cases h : t < L.length
      · exact hz1 t h
      · rw [hz0 t (by omega)]; omega
    have htk := tk_le hz0 hz1
    have hmm : ∀ W : World, (Instr.makeMap 33 none).run Try.prog W = .ok (.map (some W.heap.size)) (W.alloc (.map #[] 0)) := fun W => by first | rfl | kernel_rfl
    have hb23 : Below w2.heap.size w2 ((w2.alloc (.cells #[.int .i64 xk, .int .i64 xt, .slice xa xn xc] 27)).alloc (.cells #[.int .i64 0, .int .i64 (-1), .int .i64 0] 30)) := (below_new w2 _).trans ((below_new _ _).mono (by simp))
    have hb34 := below_new ((w2.alloc (.cells #[.int .i64 xk, .int .i64 xt, .slice xa xn xc] 27)).alloc (.cells #[.int .i64 0, .int .i64 (-1), .int .i64 0] 30)) (.map #[] 0)
    have hO4 := World.ownsMap_made (H := Unit) ((w2.alloc (.cells #[.int .i64 xk, .int .i64 xt, .slice xa xn xc] 27)).alloc (.cells #[.int .i64 0, .int .i64 (-1), .int .i64 0] 30)) Try.prog 3 (plainElem Try.prog 3)
    have hN4 : (((w2.alloc (.cells #[.int .i64 xk, .int .i64 xt, .slice xa xn xc] 27)).alloc (.cells #[.int .i64 0, .int .i64 (-1), .int .i64 0] 30)).alloc (.map #[] 0)).heap[w2.heap.size]? = some (boxN ⟨xk, xt, xa, xn, xc⟩) := ((hb34.block _ (by simp; omega)).trans ((below_new _ _).block _ (by simp))).trans (heap_alloc_new w2 _)
    have hz3 : ((w2.alloc (.cells #[.int .i64 xk, .int .i64 xt, .slice xa xn xc] 27)).alloc (.cells #[.int .i64 0, .int .i64 (-1), .int .i64 0] 30)).heap.size = w2.heap.size + 1 + 1 := by simp
    rw [hz3] at hO4 hb34
    have hb24 := hb23.trans (hb34.mono (by omega))
    have HCt := hid (count_any (szN n) n (Nat.le_refl _) ⟨xk, xt, xa, xn, xc⟩ (fun b => w1.heap.size ≤ b ∧ b < w2.heap.size) _ (w2.heap.size + 1 + 1) 0 (.map []) (fun _ => 0) ((hx.mono fun b hb hlt => ⟨hb, hlt⟩).kept fun b hb _ => hb24.block b hb.2) (fun b hb => by omega) hO4 CtIs.nil (fun t ht => hz0 t (by omega)) (by omega) (fun t => by have := hz2 t; omega))
    have HB4 := hid (HB2.out.trans (hb24.mono HB2.out.size))
    have HB2z := hid HB2.out.size
    have HTl : Hid (∀ b off, a = some ⟨b, off, none⟩ → L ≠ [] → b < w1.heap.size) := fun b off e hL => by
      rcases HT1.out with h | ⟨b', off', e', hlt, _⟩
      · exact absurd h hL
      · rw [e] at e'
        cases e'
        exact hlt
    have HT4 := hid (HT1.out.below ((hb2.trans (hb24.mono hb2.size))))
    have HZ := hid (And.intro hz0 (And.intro hz2 hCov))
    have hz12 : w1.heap.size ≤ w2.heap.size := hb2.size
    obtain ⟨⟨s0, s1, s2⟩, _⟩ := boxN_facts hN4
    unfold aggN at HCt
    dsimp only at HCt s0 s1 s2
    clear hb2 hx hb23 hb34 hb24 hO4 hN4 hz0 hz1 hz2 hCov HP1 HB1 HB2 HT1 hz3
    go_wp2_with fail
    refine HCt.out.mono ?_
    rintro e w5 ⟨rfl, ⟨D, hO5, hC5⟩, hk5⟩
    rw [Nat.zero_add] at hO5
    have HO5 := hid hO5
    have HC5 := hid (hC5.ext fun t => Nat.zero_add (cntN n t))
    have HB5 := hid (HB4.out.trans (hk5.below HB4.out.size fun k hk e => by have := HB2z.out; omega))
    have HT5 := hid (HT4.out.kept hk5 fun b off e hL => by have := HTl.out b off e hL; omega)
    clear hO5 hC5 hk5 HCt HB4 HT4 s0 s1 s2
    generalize w2.heap.size + 1 + 1 = M at *
    go_wp2_with fail
    have hMw : M < w5.heap.size := by obtain ⟨es, cl, h⟩ := map_apart HO5.out; exact lt_of_block h
    go_loopw [33] (fun v wr => ∃ j : Nat, j ≤ L.length ∧ v = .int .i64 (j : Int) ∧ Hid (Below w5.heap.size w5 wr)) (fun v _ => L.length - (intOf v).toNat)
    case atStart => exact ⟨0, Nat.zero_le _, rfl, Below.refl _ _⟩
    case round =>
      obtain ⟨j, hj, rfl, hst⟩ := hrel
      by_cases hjl : j < L.length
      · have hji : (j : Int) < (L.length : Int) := by omega
        have hj0 : (0 : Int) ≤ (j : Int) := by omega
        have hw2 : IntKind.i64.wrap ((j : Int) + 1) = (j : Int) + 1 := by rw [IntKind.wrap_i64]; omega
        obtain ⟨tk, htk'⟩ : ∃ tk, L[j]? = some tk := ⟨_, List.getElem?_eq_getElem hjl⟩
        have hTr := HT5.out.below hst.out
        rcases hTr with h0 | ⟨b, off, ea, hbl, hcx⟩
        · rw [h0] at hjl
          simp at hjl
        cases ea
        obtain ⟨c0, c1, c2, c3, c4, c5, c6, c7, c8, c9, c10⟩ := tk_cellsW (hcx j tk htk')
        have hbt := below_new wr (.cells #[.int .i64 tk.kind, .string tk.text, .bool tk.space, .bool tk.first, .int .i64 tk.file, .int .i64 tk.lo, .int .i64 tk.hi, .int .i64 tk.line, .slice none 0 0, .slice none 0 0, .int .i64 0] 38)
        have HBt := hid (hst.out.trans (hbt.mono hst.out.size))
        have HLk := hid (fun W (hW : Below w5.heap.size w5 W) => ct_look (ct_same HO5.out (hW.block _ hMw)) HC5.out j (by omega))
        have hcv := (HZ.out.2.2.2 j).2 (Nat.zero_le _) hjl
        have hwn : wantT L j = ((tk.kind == 2) || (tk.kind == 3) || (tk.kind == 4) || (decide (tk.kind = 1) && !keyW tk.text.data.toList)) := by unfold wantT kindT nameT; rw [htk']
        rw [hwn] at hcv
        have HKy := hid (fun W => Key_any tk.text W)
        clear hcx hbt hwn hst htk'
        by_cases k2 : tk.kind = 2
        · have hq : cntN n j = 1 := hcv.2 (by rw [k2]; rfl)
          rw [k2] at c0 HBt
          have hlk := HLk.out _ HBt.out
          rw [hq] at hlk
          go_wp2_with fail
          go_roundw
          case rel => exact ⟨j + 1, by omega, rfl, HBt⟩
          case measure => simp [intOf]; omega
        have k2' : (tk.kind == 2) = false := beq_eq_false_iff_ne.2 k2
        by_cases k3 : tk.kind = 3
        · have hq : cntN n j = 1 := hcv.2 (by rw [k3]; rfl)
          rw [k3] at c0 HBt
          have hlk := HLk.out _ HBt.out
          rw [hq] at hlk
          go_wp2_with fail
          go_roundw
          case rel => exact ⟨j + 1, by omega, rfl, HBt⟩
          case measure => simp [intOf]; omega
        have k3' : (tk.kind == 3) = false := beq_eq_false_iff_ne.2 k3
        by_cases k4 : tk.kind = 4
        · have hq : cntN n j = 1 := hcv.2 (by rw [k4]; rfl)
          rw [k4] at c0 HBt
          have hlk := HLk.out _ HBt.out
          rw [hq] at hlk
          go_wp2_with fail
          go_roundw
          case rel => exact ⟨j + 1, by omega, rfl, HBt⟩
          case measure => simp [intOf]; omega
        have k4' : (tk.kind == 4) = false := beq_eq_false_iff_ne.2 k4
        have hq01 : cntN n j = 0 ∨ cntN n j = 1 := by have := hcv.1; omega
        by_cases k1 : tk.kind = 1
        · rw [k1] at c0 HBt
          cases hky : keyW tk.text.data.toList with
          | true =>
            rw [hky] at HKy
            go_wp2_with fail
            refine (HKy.out _).mono ?_
            rintro e w7 ⟨rfl, m7, rfl⟩
            have HB7 := hid (HBt.out.trans ((dN_below (Below.refl _ _) m7).mono HBt.out.size))
            generalize World.drewN _ m7 = w7 at *
            have hlk := HLk.out _ HB7.out
            rcases hq01 with hq | hq
            · rw [hq] at hlk
              go_wp2_with fail
              go_roundw
              case rel => exact ⟨j + 1, by omega, rfl, HB7⟩
              case measure => simp [intOf]; omega
            · rw [hq] at hlk
              go_wp2_with fail
              go_roundw
              case rel => exact ⟨j + 1, by omega, rfl, HB7⟩
              case measure => simp [intOf]; omega
          | false =>
            rw [hky] at HKy
            go_wp2_with fail
            refine (HKy.out _).mono ?_
            rintro e w7 ⟨rfl, m7, rfl⟩
            have HB7 := hid (HBt.out.trans ((dN_below (Below.refl _ _) m7).mono HBt.out.size))
            generalize World.drewN _ m7 = w7 at *
            have hlk := HLk.out _ HB7.out
            have hq : cntN n j = 1 := hcv.2 (by rw [k1, hky]; rfl)
            rw [hq] at hlk
            go_wp2_with fail
            go_roundw
            case rel => exact ⟨j + 1, by omega, rfl, HB7⟩
            case measure => simp [intOf]; omega
        have k1' : (tk.kind == 1) = false := beq_eq_false_iff_ne.2 k1
        have hlk := HLk.out _ HBt.out
        rcases hq01 with hq | hq
        · rw [hq] at hlk
          go_wp2_with fail
          go_roundw
          case rel => exact ⟨j + 1, by omega, rfl, HBt⟩
          case measure => simp [intOf]; omega
        · rw [hq] at hlk
          go_wp2_with fail
          go_roundw
          case rel => exact ⟨j + 1, by omega, rfl, HBt⟩
          case measure => simp [intOf]; omega
      · have hjk : j = L.length := by omega
        subst hjk
        have hji : ¬ ((L.length : Int) < (L.length : Int)) := by omega
        have hOr := ct_same HO5.out (hst.out.block _ hMw)
        have HBr := hid hst.out
        have HBz := hid HB5.out.size
        go_wp2_with (first | (at_range; refine wpList_range_own _ rfl _ 33 rfl 3 3 (Go.Maps.int_keyed Try.underlying3) Try.underlying33 _ M _ D rfl hOr ?_; intro w8 hrg8 hg8 hs8) | go_in)
        try go_frame
        have HB8 := hid (HBr.out.trans ((⟨hg8.os, hg8.tape, hg8.output, hg8.size, fun b hb => hg8.block b hb (by simp)⟩ : Below wr.heap.size wr w8).mono HBr.out.size))
        have hrl : w5.heap.size ≤ wr.heap.size := HBr.out.size
        clear hg8 hs8 hst hOr
        generalize wr.heap.size = r at *
        go_loopw [10] (fun _ wr => ∃ (left : Lit → Bool) (cnt : Nat), wr.ranges Try.prog 3 (plainElem Try.prog 3) M r (tkN n) D left cnt ∧ Hid (Below w5.heap.size w5 wr)) (fun _ wr => wr.rangeLeft M r)
        case atStart => exact ⟨_, _, hrg8, HB8⟩
        case round =>
          obtain ⟨left, cnt, hrg, hbw⟩ := hrel
          go_wp2_with (first | (at_next; refine wpList_next_ranges_ii _ rfl _ rfl 3 3 .i64 .i64 (Go.Maps.int_keyed Try.underlying3) Try.underlying3 Try.underlying3 M r _ _ _ _ rfl hrg ?_ ?_) | go_in)
          · intro _ hl0
            go_wp2_with fail
            go_ret
            exact ⟨rfl, HB5.out.trans (hbw.out.mono HBz.out)⟩
          · intro x v w9 cnt9 hwx hwc hlx hat hrg9 hlt hg9 hs9 hen
            have hxl : x < (L.length : Int) := by
              have h1 := hat (.lit (.bool true))
              rw [HC5.out.2] at h1
              by_cases h2 : 0 ≤ x ∧ cntN n x.toNat ≠ 0
              · have h3 : ¬ (L.length ≤ x.toNat) := fun h => h2.2 (HZ.out.1 _ h)
                omega
              · rw [if_neg h2] at h1
                cases h1
            have hxd : decide ((L.length : Int) ≤ x) = false := decide_eq_false (by omega)
            have hxn : ¬ ((L.length : Int) ≤ x) := by omega
            have HB9 := hid (hbw.out.trans (⟨hg9.os, hg9.tape, hg9.output, by omega, fun b hb => hg9.block b (by have := hbw.out.size; omega) (by intro e; cases e; omega)⟩ : Below w5.heap.size _ w9))
            go_wp2_with fail
            go_roundw
            case rel => exact ⟨_, _, hrg9, HB9⟩
            case measure => rw [hrg9.left_eq, hrg.left_eq]; omega
end Go.Proofs.Ytocklchafmlfkaa
