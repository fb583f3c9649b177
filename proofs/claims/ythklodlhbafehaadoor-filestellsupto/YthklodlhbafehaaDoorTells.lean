/- The statement FilesTells: at every input it returns true, if the document's own Change answers what Change's spec says. -/
import Derived.Test.YthklodlhbafehaaDoorRInclude
import Derived.Test.YthklodlhbafehaaDoorDoneFacts
import Derived.Test.YthklodlhbafehaaDoorAlive
import Derived.Test.YthklodlhbafehaaDoorSame
import Derived.Test.YthklodlhbafehaaDoorTurned
import Derived.Deep.RegionHeld3
namespace Go.Proofs.YthklodlhbafehaaDoor
open Go.RowKit Go.Shelf

theorem total_mem {es : List Ed} {e : Ed} (h : e ∈ es) : e.text.size ≤ total es := by
  induction es with
  | nil => cases h
  | cons x r ih =>
    have ht : total (x :: r) = x.text.size + total r := by simp [total]
    rcases List.mem_cons.1 h with rfl | h
    · omega
    · have := ih h; omega

/-- What the document's own Change must answer. -/
def RChanges (a a2 : Option Addr) (cap cap2 : Nat) (fs : List Src) (es : List Ed) (W : World) : Prop :=
  Calls Tryd.prog 18 #[.slice a fs.length cap, .slice a2 es.length cap2] W
    fun e w' => ∃ a' c', e = .returned (.tuple #[.slice a' (changeF fs es).1.length c', .int .i64 (changeF fs es).2]) ∧ FAt w' a' (changeF fs es).1 ∧ Below W.heap.size W w'

set_option maxRecDepth 100000 in
set_option maxHeartbeats 1000000 in
theorem Tells_walk (a a2 : Option Addr) (cap cap2 : Nat) (fs : List Src) (es : List Ed) (k : Int) (path : ByteArray) (q : Bool) (w : World) (hm : Mx w) (hF : FAt w a fs) (hE : EAt w a2 es) (hn : fs.length ≤ 1048576) (hz : ∀ x ∈ fs, x.1.size ≤ 1048576 ∧ x.2.size ≤ 1048576)
    (hn2 : es.length + total es ≤ 1048576) (hp : path.size ≤ 1048576) (hRC : ∀ W, Below w.heap.size w W → RChanges a a2 cap cap2 fs es W) :
    Calls Tryd.prog 3 #[.slice a fs.length cap, .slice a2 es.length cap2, .int .i64 k, .string path, .bool q] w fun e w' => e = .returned (.bool true) ∧ Below w.heap.size w w' := by
  have HC1 := hid (fun W (h : Below w.heap.size w W) => by
    obtain ⟨m, hmx⟩ := hm.below h
    exact Clean_any path W m hmx (by unfold maxLen; omega))
  have HC2 := hid (fun W => rclean_any path W (by unfold maxLen; omega))
  have HW1 := hid (fun W (h : Below w.heap.size w W) => Wrong_any a cap fs W (hm.below h) (hF.below h) (fun x hx => by have := hz x hx; unfold maxLen; omega) (by unfold maxLen; omega))
  have HW2 := hid (fun W (h : Below w.heap.size w W) => rwrong_any a cap fs W (hF.below h) (fun x hx => by have := hz x hx; unfold maxLen; omega) (by unfold maxLen; omega))
  have HF1 := hid (fun W (h : Below w.heap.size w W) => Find_any a cap fs path W (hF.below h) (by unfold maxLen; omega))
  have HF2 := hid (fun W (h : Below w.heap.size w W) => rfind_any a cap fs path W (hF.below h) (by unfold maxLen; omega))
  have HI1 := hid (fun W (h : Below w.heap.size w W) => Include_any a cap fs k path q W (hm.below h) (hF.below h) (by unfold maxLen; omega) (fun x hx => by have := hz x hx; omega) (by omega))
  have HI2 := hid (fun W (h : Below w.heap.size w W) => rinclude_any a cap fs k path q W (hF.below h) hn (fun x hx => (hz x hx).1) hp)
  generalize cleanB path = cb at HC1 HC2
  generalize (wrongF fs).1 = f1 at HW1 HW2
  generalize (wrongF fs).2 = f2 at HW1 HW2
  generalize findF fs path = fi at HF1 HF2
  generalize includeF fs k path q = ii at HI1 HI2
  go_enter Tryd.func3, Tryd.ntmps3
  go_wp2_with fail
  refine (HC1.out w (Below.refl _ w)).mono ?_
  rintro e w1 ⟨rfl, hb1⟩
  have HB1 := hid hb1
  clear hb1 HC1
  go_wp2_with fail
  refine (HC2.out w1).mono ?_
  rintro e w2 ⟨rfl, hb2⟩
  have HB2 := hid (HB1.out.trans (hb2.mono HB1.out.size))
  clear hb2 HC2
  go_wp2_with fail
  refine (HW1.out w2 HB2.out).mono ?_
  rintro e w3 ⟨rfl, hb3⟩
  have HB3 := hid (HB2.out.trans (hb3.mono HB2.out.size))
  clear hb3 HW1
  go_wp2_with fail
  refine (HW2.out w3 HB3.out).mono ?_
  rintro e w4 ⟨rfl, hb4⟩
  have HB4 := hid (HB3.out.trans (hb4.mono HB3.out.size))
  clear hb4 HW2
  go_wp2_with fail
  refine (HF1.out w4 HB4.out).mono ?_
  rintro e w5 ⟨rfl, hb5⟩
  have HB5 := hid (HB4.out.trans (hb5.mono HB4.out.size))
  clear hb5 HF1
  go_wp2_with fail
  refine (HF2.out w5 HB5.out).mono ?_
  rintro e w6 ⟨rfl, hb6⟩
  have HB6 := hid (HB5.out.trans (hb6.mono HB5.out.size))
  clear hb6 HF2
  go_wp2_with fail
  refine (HI1.out w6 HB6.out).mono ?_
  rintro e w7 ⟨rfl, hb7⟩
  have HB7 := hid (HB6.out.trans (hb7.mono HB6.out.size))
  clear hb7 HI1
  go_wp2_with fail
  refine (HI2.out w7 HB7.out).mono ?_
  rintro e w8 ⟨rfl, hb8⟩
  have HB8 := hid (HB7.out.trans (hb8.mono HB7.out.size))
  clear hb8 HI2
  go_wp2_with fail
  go_loopw [53] (fun i wr => ∃ j : Nat, j ≤ fs.length ∧ i = .int .i64 j ∧ Hid (Below w.heap.size w wr)) (fun i _ => fs.length - (intOf i).toNat)
  case atStart => exact ⟨0, Nat.zero_le _, rfl, HB8.out⟩
  case round =>
    obtain ⟨j, hj, rfl, HB⟩ := hrel
    clear HB8 HB7 HB6 HB5 HB4 HB3 HB2 HB1
    by_cases hlt : j < fs.length
    · have hgx : fs[j]? = some fs[j] := List.getElem?_eq_getElem hlt
      rcases id hF with h0 | ⟨b, off, rfl, hb, hc⟩
      · rw [h0] at hlt; simp at hlt
      obtain ⟨c0, c1⟩ := hc j fs[j] hgx
      rw [← HB.out.cell (p := ⟨b, _, none⟩) hb] at c0 c1
      have hzx := hz fs[j] (List.getElem_mem hlt)
      generalize fs[j] = x at c0 c1 hzx
      obtain ⟨px, tx⟩ := x
      dsimp only at c0 c1 hzx
      have HB2 := hid (HB.out.alloc HB.out.size (.cells #[.string px, .string tx] 33))
      have HP1 := hid (fun p : Later (wr.alloc (.cells #[.string px, .string tx] 33)) => Beside_any px path p.W (hm.below (HB2.out.trans (p.hb.mono HB2.out.size))) (by omega))
      have HP2 := hid (fun p : Later (wr.alloc (.cells #[.string px, .string tx] 33)) => rbeside_any px path p.W hzx.1 hp)
      generalize besideB px path = r at HP1 HP2
      have l0 : (wr.alloc (.cells #[.string px, .string tx] 33)).cell? ⟨wr.heap.size, 0, none⟩ = some (.string px) := by rw [World.cell?_alloc_mark]; rfl
      have l1 := Later.cell l0
      have hnn : Nonempty (Later (wr.alloc (.cells #[.string px, .string tx] 33))) := ⟨⟨_, Below.refl _ _⟩⟩
      clear hc hgx hzx l0
      go_wp2_with fail
      refine region_later (by kernel_rfl) (by kernel_rfl) ?_
      repeat (quiet_step (first | (go_at_call 15; exact Calls.later (HP1.out _)) | (go_at_call 16; exact Calls.later (HP2.out _))))
      refine wpQuiet_nil ?_
      rintro _ ⟨p, rfl⟩
      have HB3 := hid (HB2.out.trans (p.hb.mono HB2.out.size))
      clear l1 HP1 HP2
      go_wp2
      go_roundw
      case rel => exact ⟨j + 1, by omega, by go_num, HB3.out⟩
      case measure => simp [intOf]; omega
    · have HCh1 := hid (change_at a a2 cap cap2 fs es wr (hm.below HB.out) (hF.below HB.out) (hE.below HB.out) (by omega) (fun x hx => by have := hz x hx; omega) (by omega) (fun e he => by have := total_mem he; omega))
      have HCh2 : Hid (∀ W, Below w.heap.size w W → Calls Tryd.prog 18 #[.slice a fs.length cap, .slice a2 es.length cap2] W
          fun e w' => ∃ a' c', e = .returned (.tuple #[.slice a' (changeF fs es).1.length c', .int .i64 (changeF fs es).2]) ∧ FAt w' a' (changeF fs es).1 ∧ Below W.heap.size W w') := hRC
      have hl1 : (changeF fs es).1.length ≤ maxLen := change_few fs es (by unfold maxLen; omega)
      generalize changeF fs es = r1 at HCh1 HCh2 hl1
      obtain ⟨m, e1⟩ := r1
      dsimp only at HCh1 HCh2 hl1
      clear hRC
      go_wp2_with fail
      refine HCh1.out.mono ?_
      rintro e w3 ⟨a3, c3, rfl, hF3, hb3⟩
      have HB3 := hid (HB.out.trans (hb3.mono HB.out.size))
      have HF3 := hid hF3
      clear hb3 hF3 HCh1
      go_wp2_with fail
      refine (HCh2.out w3 HB3.out).mono ?_
      rintro e w4 ⟨a4, c4, rfl, hF4, hb4⟩
      have HB4 := hid (HB3.out.trans (hb4.mono HB3.out.size))
      have HSm := hid (Same_any a3 a4 c3 c4 m w4 (HF3.out.below hb4) hF4 hl1)
      clear hb4 hF4 HCh2 HF3 HB3
      go_wp2_with fail
      refine HSm.out.mono ?_
      rintro e w5 ⟨rfl, hb5⟩
      have HB5 := hid (HB4.out.trans (hb5.mono HB4.out.size))
      clear hb5 HSm HB4
      go_wp2_with fail
      go_ret
      exact ⟨rfl, HB5.out⟩

end Go.Proofs.YthklodlhbafehaaDoor
