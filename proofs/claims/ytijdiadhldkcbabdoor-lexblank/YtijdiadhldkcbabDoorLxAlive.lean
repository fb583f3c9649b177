/- The statements' own closed fact. -/
import Derived.Test.YtijdiadhldkcbabDoorLxLines
import Derived.Test.YtijdiadhldkcbabDoorLxJoin
import Derived.Test.YtijdiadhldkcbabDoorLxShapes
import Derived.Test.YtijdiadhldkcbabDoorLxName
namespace Go.Proofs.YtijdiadhldkcbabDoor
open Go.RowKit Go.Shelf

def aliveB : ByteArray := ⟨#[97, 49, 32, 43, 61, 47, 42, 120, 42, 47, 39, 99, 39, 10, 35, 105, 110, 99, 108, 117, 100, 101, 32, 60, 112, 62]⟩
def alive3 : List Tk := [⟨1, ⟨#[97, 49]⟩, false, true, 3, 0, 2, 1⟩, ⟨5, ⟨#[43, 61]⟩, true, false, 3, 3, 5, 1⟩, ⟨3, ⟨#[39, 99, 39]⟩, true, false, 3, 10, 13, 1⟩]
def alive6 : List Tk := [⟨1, ⟨#[97, 49]⟩, false, true, 3, 0, 2, 1⟩, ⟨5, ⟨#[43, 61]⟩, true, false, 3, 3, 5, 1⟩, ⟨3, ⟨#[39, 99, 39]⟩, true, false, 3, 10, 13, 1⟩, ⟨5, ⟨#[35]⟩, true, true, 3, 14, 15, 2⟩, ⟨1, ⟨#[105, 110, 99, 108, 117, 100, 101]⟩, false, false, 3, 15, 22, 2⟩, ⟨7, ⟨#[60, 112, 62]⟩, true, false, 3, 23, 26, 2⟩]
set_option maxRecDepth 100000 in
theorem alive_toks : toksF 3 aliveB.data.toList = (alive6, (0, -1, 0)) := by kernel_rfl
theorem alive_join : joinL alive3 = [97, 49, 32, 43, 61, 32, 39, 99, 39] := by kernel_rfl
theorem alive_sticks : sticksB ⟨#[43]⟩ ⟨#[61]⟩ = true := by kernel_rfl
theorem alive_lines : (linesF alive6).length = 2 := by kernel_rfl
theorem alive_name : nameIs (ByteArray.mk #[95, 120]).data.toList = true := by kernel_rfl
theorem TAt.prefix {w : World} {a : Option Addr} {ts us : List Tk} (h : TAt w a (ts ++ us)) : TAt w a ts := by
  rcases h with h | ⟨b, off, rfl, hb, hc⟩
  · exact .inl (by simp at h; exact h.1)
  · exact .inr ⟨b, off, rfl, hb, fun j x hx => hc j x (by rw [List.getElem?_append_left (List.getElem?_eq_some_iff.1 hx).1]; exact hx)⟩

set_option maxRecDepth 100000 in
set_option maxHeartbeats 2000000 in
theorem alive_any (w : World) (hE : Env w) :
    Calls Tryd.prog 24 #[] w fun e w' => e = .returned (.bool true) ∧ Below w.heap.size w w' := by
  have HT := hid (Tokens_any 3 aliveB w hE)
  unfold TokPost at HT
  rw [alive_toks] at HT
  unfold aliveB faultV at HT
  go_enter Tryd.func24, Tryd.ntmps24
  go_wp2_with fail
  refine HT.out.mono ?_
  rintro e w1 ⟨a, c, rfl, hT, hb1, hcap⟩
  clear HT
  have HB1 := hid hb1
  have HE1 := hid (hE.below hb1)
  rcases id hT with h | ⟨b, off, rfl, hb, hc⟩
  · exact absurd h (by unfold alive6; simp)
  have x1 := hc 1 _ rfl 1 _ rfl
  have x2 := hc 2 _ rfl 2 _ rfl
  have x3 := hc 3 _ rfl 3 _ rfl
  have x5 := hc 5 _ rfl 0 _ rfl
  have x6 := hc 5 _ rfl 4 _ rfl
  simp at x1 x2 x3 x5 x6
  have HJ : Hid (∀ W, Below w1.heap.size w1 W → Calls Tryd.prog 15 #[.slice (some ⟨b, off, none⟩) 3 c] W fun e w' => e = .returned (.string ⟨#[97, 49, 32, 43, 61, 32, 39, 99, 39]⟩) ∧ Below W.heap.size W w') := fun W h => by
    have := Join_any (some ⟨b, off, none⟩) c alive3 W (HE1.out.below h) ((TAt.prefix (us := alive6.drop 3) hT).below h) (by decide) (by decide)
    rw [alive_join] at this
    exact this
  have HS : Hid (∀ W, Below w1.heap.size w1 W → Calls Tryd.prog 13 #[.string ⟨#[43]⟩, .string ⟨#[61]⟩] W fun e w' => e = .returned (.bool true) ∧ Below W.heap.size W w') := fun W h => by
    have := Sticks_any ⟨#[43]⟩ ⟨#[61]⟩ W (HE1.out.below h) (by decide)
    rw [alive_sticks] at this
    exact this
  have HL : Hid (∀ W, Below w1.heap.size w1 W → Calls Tryd.prog 17 #[.slice (some ⟨b, off, none⟩) 6 c] W fun e w' => ∃ a c, e = .returned (.slice a 2 c) ∧ Below W.heap.size W w') := fun W h => by
    refine (Lines_tok (some ⟨b, off, none⟩) c alive6 W (hT.below h) (by decide)).mono ?_
    rintro e w' ⟨v, rfl, ⟨a, c, rfl, _⟩, hb⟩
    exact ⟨a, c, by rw [alive_lines], hb⟩
  have HN : Hid (∀ W, Calls Tryd.prog 11 #[.string ⟨#[95, 120]⟩] W fun e w' => e = .returned (.bool true) ∧ Below W.heap.size W w') := fun W => by
    have := Name_any ⟨#[95, 120]⟩ W (by decide)
    rw [alive_name] at this
    exact this
  have HLe : Hid (∀ W, Calls Tryd.prog 20 #[.int .u8 95] W fun e w' => e = .returned (.bool true) ∧ w' = W) := fun W => Letter_any 95 W
  have HD : Hid (∀ W, Calls Tryd.prog 22 #[.int .u8 48] W fun e w' => e = .returned (.bool true) ∧ w' = W) := fun W => Digit_any 48 W
  have HG : Hid (∀ W, Below w1.heap.size w1 W → Calls Tryd.prog 18 #[] W fun e w' => e = .returned (.slice (some ⟨W.heap.size, 0, none⟩) 48 48) ∧ Below W.heap.size W w') := fun W h => by
    refine (Signs_any W (HE1.out.below h)).mono ?_
    rintro e w' ⟨rfl, rfl⟩
    exact ⟨rfl, (Below.refl _ _).alloc (Nat.le_refl _) _⟩
  rw [show alive6.length = 6 from rfl]
  have hc3 : 3 ≤ c := by have : 6 ≤ c := hcap; omega
  have hc3i : (3 : Int) ≤ (c : Int) := by omega
  clear hT hc hb1 hE
  go_wp2_with fail
  have hbX := (Below.refl _ w1).alloc (Nat.le_refl _) (.cells #[.int .i64 0, .int .i64 (-1), .int .i64 0] 25)
  refine (HJ.out _ hbX).mono ?_
  rintro e w2 ⟨rfl, hb2⟩
  have HB2 := hid (hbX.trans (hb2.mono hbX.size))
  clear hbX hb2
  go_wp2_with fail
  refine (HS.out _ HB2.out).mono ?_
  rintro e w3 ⟨rfl, hb3⟩
  have HB3 := hid (HB2.out.trans (hb3.mono HB2.out.size))
  clear hb3
  go_wp2_with fail
  refine (HL.out _ HB3.out).mono ?_
  rintro e w4 ⟨a4, c4, rfl, hb4⟩
  have HB4 := hid (HB3.out.trans (hb4.mono HB3.out.size))
  clear hb4
  go_wp2_with fail
  refine (HN.out _).mono ?_
  rintro e w5 ⟨rfl, hb5⟩
  have HB5 := hid (HB4.out.trans (hb5.mono HB4.out.size))
  clear hb5
  go_wp2_with (first | (go_at_call 20; refine (HLe.out _).mono ?_; rintro e w' ⟨rfl, hww⟩; subst w') | (go_at_call 22; refine (HD.out _).mono ?_; rintro e w' ⟨rfl, hww⟩; subst w'))
  refine (HG.out _ HB5.out).mono ?_
  rintro e w6 ⟨rfl, hb6⟩
  have HB6 := hid (HB5.out.trans (hb6.mono HB5.out.size))
  clear hb6
  go_wp2
  go_ret
  exact ⟨rfl, HB1.out.trans (HB6.out.mono HB1.out.size)⟩
end Go.Proofs.YtijdiadhldkcbabDoor
