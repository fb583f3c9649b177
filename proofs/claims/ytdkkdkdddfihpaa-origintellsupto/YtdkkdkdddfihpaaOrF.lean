/- Walks of the document's own Right, and of Outer. -/
import Derived.Test.YtdkkdkdddfihpaaOrE
namespace Go.Proofs.Ytdkkdkdddfihpaa
open Go.RowKit Go.Shelf

set_option maxRecDepth 100000 in
set_option maxHeartbeats 4000000 in
theorem RRight_any (a : Option Addr) (cap : Nat) (fs : List Sr) (t : Ov) (w : World) (hF : FlAt w a fs) (hS : Short fs) (hfl : fs.length ≤ 1048576) (hC : CsAt w t.ca t.calls) (hcl : t.calls.length ≤ 1048576) :
    Calls Try.prog 7 #[.slice a fs.length cap, aggO t] w (StandsPost (rightP fs t) w) := by
  have HSt := hid (fun c W (hb : Below w.heap.size w W) => RBegins_any a cap fs c W (hF.below hb) hS hfl)
  have HSp := hid (fun W (hb : Below w.heap.size w W) => RSpan_any a cap fs t W (hF.below hb) hS hfl)
  have HA := hid ((Below.refl w.heap.size w).alloc (Nat.le_refl _) (boxO t))
  have HC := hid (fun W (hb : Below w.heap.size w W) => hC.below hb)
  have HR : Hid (rightP fs t = (t.calls.all (standsP fs) && (!(t.made == 0) || spanIs fs t))) := rfl
  have HI := hid (spanIs_eq fs t)
  generalize rightP fs t = R at HR ⊢
  generalize spanIs fs t = SI at HR HI
  generalize spanP fs t = SP at HSp HI
  clear hF hS hC
  unfold aggO at *
  obtain ⟨kind, text, space, first, file, lo, hi, line, ha, hn, hc, ca, cc, calls, made⟩ := t
  dsimp only at *
  have z := fun (i : Nat) v h => box_cell w #[.int .i64 kind, .string text, .bool space, .bool first, .int .i64 file, .int .i64 lo, .int .i64 hi, .int .i64 line, .slice ha hn hc, .slice ca calls.length cc, .int .i64 made] 29 0 i v h
  change ∀ (i : Nat) v, _ → (w.alloc (boxO ⟨kind, text, space, first, file, lo, hi, line, ha, hn, hc, ca, cc, calls, made⟩)).cell? ⟨w.heap.size, i, none⟩ = some v at z
  have hszw : w.heap.size < (w.alloc (boxO ⟨kind, text, space, first, file, lo, hi, line, ha, hn, hc, ca, cc, calls, made⟩)).heap.size := by simp
  go_enter Try.func7, Try.ntmps7
  go_wp2_with fail
  generalize World.alloc w (boxO ⟨kind, text, space, first, file, lo, hi, line, ha, hn, hc, ca, cc, calls, made⟩) = w1 at *
  have HZ := hid z
  clear z
  go_loopw [12] (fun x wr => ∃ j : Nat, j ≤ calls.length ∧ x = .int .i64 j ∧ Hid (Below w1.heap.size w1 wr ∧ (calls.take j).all (standsP fs) = true)) (fun x _ => calls.length - (intOf x).toNat)
  case atStart => exact ⟨0, Nat.zero_le _, rfl, Below.refl _ _, rfl⟩
  case round =>
    obtain ⟨j, hj, rfl, HB⟩ := hrel
    have HW := hid (HA.out.trans (HB.out.1.mono HA.out.size))
    by_cases hlt : j < calls.length
    · obtain ⟨b, off, hca, hb, c0, c1, c2⟩ := (HC.out _ HW.out).at j hlt
      have HN := hid (all_step calls (standsP fs) j hlt HB.out.2)
      have HS1 := hid (fun W hb => HSt.out calls[j] W hb)
      have HW1 := hid (fun o => HW.out.alloc HW.out.size o)
      have HB1 := hid (fun o => HB.out.1.alloc HB.out.1.size o)
      unfold aggC at HS1
      subst hca
      generalize hg : calls[j] = q at *
      clear hg
      obtain ⟨qn, qf, ql⟩ := q
      dsimp only at *
      have hbb : b ≠ wr.heap.size := by omega
      by_cases hq : qf = -1
      · subst hq
        have HN2 := hid (HN.out.1 rfl)
        go_wp2_with fail
        go_roundw
        case rel => exact ⟨j + 1, hlt, by go_num, HB1.out _, HN2.out⟩
        case measure => simp [intOf]; omega
      have hq1 : (qf == -1) = false := by rw [beq_eq_false_iff_ne]; exact hq
      have hst : standsP fs ⟨qn, qf, ql⟩ = begP fs ⟨qn, qf, ql⟩ := by unfold standsP; rw [show (Cl.mk qn qf ql).file = qf from rfl, hq1, Bool.false_or]
      rw [hst] at HN
      generalize begP fs ⟨qn, qf, ql⟩ = B at *
      rcases B with _ | _
      · have HN2 := hid (HN.out.2 rfl)
        clear hst
        go_wp2_with (go_at_call 16; refine (HS1.out _ (HW1.out _)).mono ?_; rintro e w2 ⟨rfl, hb2⟩)
        go_ret
        refine ⟨ret_bool ?_, (HW1.out _).trans (hb2.mono (HW1.out _).size)⟩
        rw [HR.out, HN2.out, Bool.false_and]
      · have HN2 := hid (HN.out.1 rfl)
        clear hst
        go_wp2_with (go_at_call 16; refine (HS1.out _ (HW1.out _)).mono ?_; rintro e w2 ⟨rfl, hb2⟩)
        go_roundw
        case rel => exact ⟨j + 1, hlt, by go_num, (HB1.out _).trans (hb2.mono (HB1.out _).size), HN2.out⟩
        case measure => simp [intOf]; omega
    · obtain rfl : j = calls.length := by omega
      have HAll := HB.out.2
      rw [List.take_length] at HAll
      have HE : Hid (R = (!(made == 0) || SI)) := by show _ = _; rw [HR.out, HAll, Bool.true_and]
      have z0 := fun (i : Nat) v h => (HB.out.1.cell (p := ⟨w.heap.size, i, none⟩) hszw).trans (HZ.out i v h)
      have y0 := z0 0 _ rfl
      have y1 := z0 1 _ rfl
      have y2 := z0 2 _ rfl
      have y3 := z0 3 _ rfl
      have y4 := z0 4 _ rfl
      have y5 := z0 5 _ rfl
      have y6 := z0 6 _ rfl
      have y7 := z0 7 _ rfl
      have y8 := z0 8 _ rfl
      have y9 := z0 9 _ rfl
      have y10 := z0 10 _ rfl
      clear z0 HAll HR HC HSt hlt
      have hww : w.heap.size < wr.heap.size := Nat.lt_of_lt_of_le hszw HB.out.1.size
      by_cases hm : made = 0
      · subst hm
        have HE2 : Hid (R = SI) := by show _ = _; rw [HE.out]; rfl
        rcases SP with _ | s
        · have HI2 : Hid (SI = false) := by show _ = _; rw [HI.out]; rfl
          go_wp2_with (go_at_call 5; refine (HSp.out _ HW.out).mono ?_; rintro e w2 ⟨rfl, hb2⟩; have y1' := (hb2.cell (p := ⟨w.heap.size, 1, none⟩) hww).trans y1; have y10' := (hb2.cell (p := ⟨w.heap.size, 10, none⟩) hww).trans y10)
          go_ret
          exact ⟨ret_bool (by rw [HE2.out, HI2.out]), HW.out.trans (hb2.mono HW.out.size)⟩
        · have HI2 : Hid (SI = (s.toList == text.toList)) := by show _ = _; rw [HI.out]; simp
          go_wp2_with (go_at_call 5; refine (HSp.out _ HW.out).mono ?_; rintro e w2 ⟨rfl, hb2⟩; have y1' := (hb2.cell (p := ⟨w.heap.size, 1, none⟩) hww).trans y1; have y10' := (hb2.cell (p := ⟨w.heap.size, 10, none⟩) hww).trans y10)
          go_ret
          exact ⟨ret_bool (by rw [HE2.out, HI2.out]), HW.out.trans (hb2.mono HW.out.size)⟩
      · have hm1 : (made == 0) = false := by rw [beq_eq_false_iff_ne]; exact hm
        have HE2 : Hid (R = true) := by show _ = _; rw [HE.out, hm1]; rfl
        go_wp2_with (go_at_call 5; refine (HSp.out _ HW.out).mono ?_; rintro e w2 ⟨rfl, hb2⟩; have y1' := (hb2.cell (p := ⟨w.heap.size, 1, none⟩) hww).trans y1; have y10' := (hb2.cell (p := ⟨w.heap.size, 10, none⟩) hww).trans y10)
        go_ret
        exact ⟨ret_bool HE2.out.symm, HW.out.trans (hb2.mono HW.out.size)⟩

def outerP (t : Ov) : Int × Int := match t.calls with
  | c :: _ => (c.file, c.lo)
  | [] => (t.file, t.lo)
theorem outerP_some (t : Ov) (h : 0 < t.calls.length) : outerP t = (t.calls[0].file, t.calls[0].lo) := by
  obtain ⟨kind, text, space, first, file, lo, hi, line, ha, hn, hc, ca, cc, calls, made⟩ := t
  rcases calls with _ | ⟨c, r⟩
  · simp at h
  · rfl
theorem outerP_none (t : Ov) (h : ¬ 0 < t.calls.length) : outerP t = (t.file, t.lo) := by
  obtain ⟨kind, text, space, first, file, lo, hi, line, ha, hn, hc, ca, cc, calls, made⟩ := t
  rcases calls with _ | ⟨c, r⟩
  · rfl
  · simp at h
def OuterPost (r : Int × Int) (w : World) (e : Ending) (w' : World) : Prop := e = .returned (.tuple #[.int .i64 r.1, .int .i64 r.2]) ∧ Below w.heap.size w w'
set_option maxRecDepth 100000 in
set_option maxHeartbeats 2000000 in
theorem Outer_any (t : Ov) (w : World) (hC : CsAt w t.ca t.calls) :
    Calls Try.prog 8 #[aggO t] w (OuterPost (outerP t) w) := by
  have HA := hid (fun o => (Below.refl w.heap.size w).alloc (Nat.le_refl _) o)
  unfold aggO
  by_cases h0 : 0 < t.calls.length
  · rw [outerP_some t h0]
    obtain ⟨b, off, hca, hb, c0, c1, c2⟩ := hC.at 0 h0
    generalize t.calls[0] = q at *
    obtain ⟨kind, text, space, first, file, lo, hi, line, ha, hn, hc, ca, cc, calls, made⟩ := t
    dsimp only at *
    clear hC
    subst hca
    simp only [Nat.zero_mul, Nat.add_zero] at c0 c1 c2
    have hbb : b ≠ w.heap.size := by omega
    generalize calls.length = N at *
    have h0' : (0 : Int) < (N : Int) := by omega
    have d0 : decide ((0 : Int) < (N : Int)) = true := decide_eq_true h0'
    go_enter Try.func8, Try.ntmps8
    go_wp2_with fail
    go_quiet (fail)
    go_wp2
    go_ret2
    exact ⟨rfl, bel_drewN (HA.out _) _⟩
  · rw [outerP_none t h0]
    obtain ⟨kind, text, space, first, file, lo, hi, line, ha, hn, hc, ca, cc, calls, made⟩ := t
    dsimp only at *
    clear hC
    generalize calls.length = N at *
    obtain rfl : N = 0 := by omega
    go_enter Try.func8, Try.ntmps8
    go_wp2_with fail
    go_quiet (fail)
    go_wp2
    go_ret2
    exact ⟨rfl, bel_drewN (HA.out _) _⟩
end Go.Proofs.Ytdkkdkdddfihpaa
