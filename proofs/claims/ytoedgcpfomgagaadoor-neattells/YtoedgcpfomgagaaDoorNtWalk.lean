/- Walks of margin, written and behind: how a line stands, its text with its end, and what is open behind it. -/
import Derived.Test.YtoedgcpfomgagaaDoorNtPlain
namespace Go.Proofs.YtoedgcpfomgagaaDoor
open Go.RowKit Go.Shelf

theorem isB_eq {t : Tk} {c : UInt8} (h : isB t c = true) : t.text = ⟨#[c]⟩ := by
  apply ByteArray.ext
  apply Array.ext'
  have := eq_of_beq h
  rw [toList_data] at this
  exact this
theorem isB_ne {t : Tk} {c d : UInt8} (h : isB t c = true) (hd : c ≠ d) : isB t d = false := by
  unfold isB at *
  rw [eq_of_beq h]
  simp [hd]
theorem max_sub (d : Nat) : max ((d : Int) - 1) 0 = ((d - 1 : Nat) : Int) := by omega

set_option maxRecDepth 100000 in
set_option maxHeartbeats 1000000 in
theorem margin_any (a : Option Addr) (c : Nat) (t0 : Tk) (r : List Tk) (d : Nat) (w : World) (hT : TAt w a (t0 :: r)) (hd : d ≤ 1000000000) :
    Calls Tryd.prog 14 #[.slice a (t0 :: r).length c, .int .i64 d] w fun e w' => e = .returned (.int .i64 (marginF (t0 :: r) d : Nat)) ∧ w' = w := by
  rcases hT with h | ⟨b0, off, rfl, hlt, hc⟩
  · cases h
  have c1 := hc 0 t0 rfl 1 _ rfl
  simp only [Nat.zero_mul, Nat.add_zero] at c1
  have HM : Hid (marginF (t0 :: r) d = if isB t0 35 then 0 else if isB t0 125 then d - 1 else d) := rfl
  have hlen : (t0 :: r).length = r.length + 1 := rfl
  rw [hlen]
  clear hc hlen
  have hb1 : (t0.text.toList == [35]) = isB t0 35 := rfl
  have hb2 : (t0.text.toList == [125]) = isB t0 125 := rfl
  generalize isB t0 35 = x1 at HM hb1
  generalize isB t0 125 = x2 at HM hb2
  generalize marginF (t0 :: r) d = m at HM ⊢
  generalize t0.text = tt at c1 hb1 hb2
  go_enter Tryd.func14, Tryd.ntmps14
  cases x1 with
  | true =>
    go_wp2
    go_ret
    exact ⟨by rw [HM.out]; rfl, rfl⟩
  | false =>
    cases x2 with
    | true =>
      go_wp2
      go_ret
      exact ⟨by rw [HM.out]; exact congrArg (fun x => Ending.returned (.int .i64 x)) (max_sub d), rfl⟩
    | false =>
      go_wp2
      go_ret
      exact ⟨by rw [HM.out]; rfl, rfl⟩
end Go.Proofs.YtoedgcpfomgagaaDoor
