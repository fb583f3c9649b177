/- Walks of behind and written: what is open behind a line; its text with its end. -/
import Derived.Test.YtoedgcpfomgagaaDoorNtWalk
namespace Go.Proofs.YtoedgcpfomgagaaDoor
open Go.RowKit Go.Shelf

def opensN (g : List Tk) (d k : Nat) : Nat := (g.take k).foldl openT d
theorem opensN_succ (g : List Tk) (d k : Nat) (t : Tk) (h : g[k]? = some t) : opensN g d (k + 1) = openT (opensN g d k) t := by
  unfold opensN
  rw [List.take_add_one, h]; simp
theorem opensN_all (g : List Tk) (d k : Nat) (h : g.length ≤ k) : opensN g d k = g.foldl openT d := by
  unfold opensN; rw [List.take_of_length_le h]
theorem opensN_le (g : List Tk) (d k : Nat) : opensN g d k ≤ d + g.length := by
  have := opens_le (g.take k) d
  unfold opensN
  rw [List.length_take] at this
  omega

set_option maxRecDepth 100000 in
set_option maxHeartbeats 1000000 in
theorem behind_any (a : Option Addr) (c : Nat) (t0 : Tk) (r : List Tk) (d : Nat) (w : World) (hT : TAt w a (t0 :: r)) (hd : d + (t0 :: r).length ≤ 1000000000) :
    Calls Tryd.prog 17 #[.slice a (t0 :: r).length c, .int .i64 d] w fun e w' => e = .returned (.int .i64 (behindF (t0 :: r) d : Nat)) ∧ Below w.heap.size w w' := by
  rcases hT with h | ⟨b0, off, rfl, hlt, hc⟩
  · cases h
  have c1 := hc 0 t0 rfl 1 _ rfl
  simp only [Nat.zero_mul, Nat.add_zero] at c1
  have HM : Hid (behindF (t0 :: r) d = if isB t0 35 then d else (t0 :: r).foldl openT d) := rfl
  have hb1 : (t0.text.toList == [35]) = isB t0 35 := rfl
  have hn : 0 < (t0 :: r).length := by simp
  have HCc := hid hc
  generalize isB t0 35 = x1 at HM hb1
  generalize behindF (t0 :: r) d = m at HM ⊢
  generalize t0.text = tt at c1 hb1
  generalize t0 :: r = g at HM hd hn HCc ⊢
  clear hc
  go_enter Tryd.func17, Tryd.ntmps17
  cases x1 with
  | true =>
    go_wp2
    go_ret
    exact ⟨by rw [HM.out]; rfl, Below.refl _ _⟩
  | false =>
    go_wp2_with fail
    go_loopw [1, 15] (fun y x wr => ∃ k : Nat, k ≤ g.length ∧ x = .int .i64 k ∧ y = .int .i64 (opensN g d k : Nat) ∧ Hid (Below w.heap.size w wr)) (fun _ x _ => g.length - (intOf x).toNat)
    case atStart => exact ⟨0, Nat.zero_le _, rfl, rfl, Below.refl _ _⟩
    case round =>
      obtain ⟨k, hk, rfl, rfl, HR⟩ := hrel
      by_cases hlt2 : k < g.length
      · have hxk : g[k]? = some g[k] := List.getElem?_eq_getElem hlt2
        have hcx : ∀ i v, (encT g[k])[i]? = some v → wr.cell? ⟨b0, off + k * 11 + i, none⟩ = some v := fun i v hv => (HR.out.cell (p := ⟨b0, _, none⟩) hlt).trans (HCc.out k _ hxk i v hv)
        have HO := hid (opensN_succ g d k _ hxk)
        have hle := opensN_le g d k
        have HT : Hid (∀ e, openT e g[k] = if isB g[k] 123 then e + 1 else if isB g[k] 125 then e - 1 else e) := fun _ => rfl
        have hb1 : (g[k].text.toList == [123]) = isB g[k] 123 := rfl
        have hb2 : (g[k].text.toList == [125]) = isB g[k] 125 := rfl
        generalize isB g[k] 123 = y1 at HT hb1
        generalize isB g[k] 125 = y2 at HT hb2
        generalize g[k] = t at hcx HO HT hb1 hb2
        obtain ⟨tk, tt, tsp, tfi, tf, tl, th, tn⟩ := t
        have q0 := hcx 0 _ rfl
        have q1 := hcx 1 _ rfl
        have q2 := hcx 2 _ rfl
        have q3 := hcx 3 _ rfl
        have q4 := hcx 4 _ rfl
        have q5 := hcx 5 _ rfl
        have q6 := hcx 6 _ rfl
        have q7 := hcx 7 _ rfl
        have q8 := hcx 8 _ rfl
        have q9 := hcx 9 _ rfl
        have q10 := hcx 10 _ rfl
        simp only [Nat.add_zero] at q0
        dsimp only at hb1 hb2
        have HB2 := hid (HR.out.alloc HR.out.size (.cells #[.int .i64 tk, .string tt, .bool tsp, .bool tfi, .int .i64 tf, .int .i64 tl, .int .i64 th, .int .i64 tn, .slice none 0 0, .slice none 0 0, .int .i64 0] 35))
        have HO2 : Hid (opensN g d (k + 1) = if y1 then opensN g d k + 1 else if y2 then opensN g d k - 1 else opensN g d k) := HO.out.trans (HT.out _)
        generalize opensN g d k = o at hle HO2 ⊢
        generalize ho2 : opensN g d (k + 1) = o2 at HO2
        have HE2 := hid ho2
        clear ho2
        clear hcx hxk HT HO
        cases y1 with
        | true =>
          have HO3 : Hid (o2 = o + 1) := HO2.out
          go_wp2_with fail
          exact ⟨⟨k + 1, by omega, by go_num, by rw [HE2.out, HO3.out]; go_num, HB2.out⟩, by simp [intOf]; omega⟩
        | false =>
          cases y2 with
          | true =>
            have HO3 : Hid (o2 = o - 1) := HO2.out
            go_wp2_with fail
            exact ⟨⟨k + 1, by omega, by go_num, by rw [HE2.out, HO3.out]; exact congrArg (Value.int .i64) (max_sub o), HB2.out⟩, by simp [intOf]; omega⟩
          | false =>
            have HO3 : Hid (o2 = o) := HO2.out
            go_wp2_with fail
            exact ⟨⟨k + 1, by omega, by go_num, by rw [HE2.out, HO3.out], HB2.out⟩, by simp [intOf]; omega⟩
      · rw [opensN_all g d k (by omega)]
        go_wp2_with fail
        go_ret
        exact ⟨by rw [HM.out]; rfl, HR.out⟩
end Go.Proofs.YtoedgcpfomgagaaDoor
