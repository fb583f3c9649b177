/- Walks of Lines and of the statements' own closed fact. -/
import Derived.Test.YtmonjikjgchloaaSpWhere
import Derived.Test.YtmonjikjgchloaaSpShelf
namespace Go.Proofs.Ytmonjikjgchloaa
open Go.RowKit Go.Shelf

def clamp (k : Int) (n : Nat) : Nat := (min (max k 0) (n : Int)).toNat
def linesI (l : List UInt8) (k : Int) : Int := 1 + ((l.take (clamp k l.length)).count 10 : Nat)

set_option maxHeartbeats 400000 in
theorem Lines_any (s : ByteArray) (k : Int) (w : World) (hs : s.size ≤ 1048576) :
    Calls Try.prog 7 #[.string s, .int .i64 k] w fun e w' => e = .returned (.int .i64 (linesI s.data.toList k)) ∧ w' = w := by
  have HC := hid (Try.strings_Count_one (s.extract 0 (clamp k s.size)) 10 w)
  have HE := hid (show 1 + ((Lib.countByte (s.extract 0 (clamp k s.size)).data.toList 10 : Nat) : Int) = linesI s.data.toList k by
    rw [extract_data]; simp [linesI, Lib.countByte])
  have hle : Lib.countByte (s.extract 0 (clamp k s.size)).data.toList 10 ≤ 1048576 := by
    refine Nat.le_trans (List.count_le_length) ?_
    rw [extract_data]; simp; omega
  generalize Lib.countByte (s.extract 0 (clamp k s.size)).data.toList 10 = q at HC HE hle
  unfold clamp at HC
  go_enter Try.func7, Try.ntmps7
  go_wp2_with (go_at_call 13; refine HC.out.mono ?_; rintro e w' ⟨rfl, hww⟩; subst w')
  go_ret
  exact ⟨ret_int (by rw [← HE.out]), rfl⟩

theorem after_box {wr w1 : World} {u v : Value} {T : TypeId} (hb : Below (wr.alloc (.cells #[u, v] T)).heap.size (wr.alloc (.cells #[u, v] T)) w1) :
    Below wr.heap.size wr w1 ∧ w1.cell? ⟨wr.heap.size, 0, none⟩ = some u ∧ w1.cell? ⟨wr.heap.size, 1, none⟩ = some v ∧ wr.heap.size < w1.heap.size := by
  have h0 : Below wr.heap.size wr w1 := ((Below.refl _ wr).alloc (Nat.le_refl _) _).trans (hb.mono (by simp))
  refine ⟨h0, ?_, ?_, ?_⟩
  · rw [hb.cell (p := ⟨wr.heap.size, 0, none⟩) (by simp), World.cell?_alloc_mark]; rfl
  · rw [hb.cell (p := ⟨wr.heap.size, 1, none⟩) (by simp), World.cell?_alloc_mark]; rfl
  · have := hb.size; simp at this; omega
/-- The same behind one more call. -/
theorem box_on {wr w1 w2 : World} {u v : Value} (h : Below wr.heap.size wr w1 ∧ w1.cell? ⟨wr.heap.size, 0, none⟩ = some u ∧ w1.cell? ⟨wr.heap.size, 1, none⟩ = some v ∧ wr.heap.size < w1.heap.size) (hb : Below w1.heap.size w1 w2) :
    Below wr.heap.size wr w2 ∧ w2.cell? ⟨wr.heap.size, 0, none⟩ = some u ∧ w2.cell? ⟨wr.heap.size, 1, none⟩ = some v ∧ wr.heap.size < w2.heap.size := by
  refine ⟨h.1.trans (hb.mono h.1.size), ?_, ?_, Nat.lt_of_lt_of_le h.2.2.2 hb.size⟩
  · rw [hb.cell (p := ⟨wr.heap.size, 0, none⟩) h.2.2.2]; exact h.2.1
  · rw [hb.cell (p := ⟨wr.heap.size, 1, none⟩) h.2.2.2]; exact h.2.2.1

def aliveB : ByteArray := ⟨#[97, 92, 10, 98, 13, 10, 99]⟩
theorem alive_kept : kept aliveB.data.toList = [0, 3, 5, 6] := by decide
theorem alive_bytes : bytesAt aliveB.data.toList [0, 3, 5, 6] = [97, 98, 10, 99] := by decide

set_option maxHeartbeats 1000000 in
theorem alive_any (w : World) :
    Calls Try.prog 11 #[] w fun e w' => e = .returned (.bool true) ∧ Below w.heap.size w w' := by
  have HT := hid (Text_any aliveB w (by decide))
  rw [alive_kept, alive_bytes] at HT
  unfold aliveB at HT
  go_enter Try.func11, Try.ntmps11
  go_wp2_with (go_at_call 5; refine HT.out.mono ?_; rintro e w1 ⟨b, c, rfl, hI, hb1⟩)
  have hI' : IAt w1 b [0, 3, 5, 6, 7] := hI
  have HW := hid (fun W (h : Below w1.heap.size w1 W) => Where_any ⟨#[97, 98, 10, 99]⟩ b c [0, 3, 5, 6, 7] 1 W (hI'.below h))
  have HK := hid (fun W (h : Below w1.heap.size w1 W) => Back_any ⟨#[97, 98, 10, 99]⟩ b c [0, 3, 5, 6, 7] 2 W (hI'.below h) (by decide))
  rw [show whereI [0, 3, 5, 6, 7] 1 = 3 by decide] at HW
  rw [show backI [0, 3, 5, 6, 7] 2 = 1 by decide] at HK
  have HL := hid (fun W => Lines_any ⟨#[97, 10, 98]⟩ 2 W (by decide))
  rw [show linesI (ByteArray.mk #[97, 10, 98]).data.toList 2 = 2 by decide] at HL
  have HB1 := hid hb1
  clear hI hI' hb1
  refine (HW.out _ ((Below.refl _ w1).alloc (Nat.le_refl _) _)).mono ?_
  rintro e w2 ⟨rfl, hb2⟩
  have HX := hid (after_box hb2)
  obtain ⟨_, hx0, hx1, _⟩ := HX.out
  clear hb2
  go_wp2_with fail
  refine (HK.out _ HX.out.1).mono ?_
  rintro e w3 ⟨rfl, hb3⟩
  have HX3 := hid (box_on HX.out hb3)
  clear hb3 HX hx0 hx1
  go_wp2_with (go_at_call 7; refine (HL.out _).mono ?_; rintro e w' ⟨rfl, hww⟩; subst w')
  go_ret
  exact ⟨rfl, HB1.out.trans (HX3.out.1.mono HB1.out.size)⟩
end Go.Proofs.Ytmonjikjgchloaa
