/- Walk of the document's own Include: a call returns what Include's spec says. -/
import Derived.Test.YthklodlhbafehaaDoorRBeside
import Derived.Test.YthklodlhbafehaaDoorInclude
namespace Go.Proofs.YthklodlhbafehaaDoor
open Go.RowKit Go.Shelf

set_option maxRecDepth 100000 in
set_option maxHeartbeats 1000000 in
theorem rinclude_any (a : Option Addr) (cap : Nat) (fs : List Src) (k : Int) (path : ByteArray) (quotes : Bool) (w : World)
    (hF : FAt w a fs) (hn : fs.length ≤ 1048576) (hz : ∀ x ∈ fs, x.1.size ≤ 1048576) (hp : path.size ≤ 1048576) :
    Calls Tryd.prog 14 #[.slice a fs.length cap, .int .i64 k, .string path, .bool quotes] w fun e w' => e = .returned (.int .i64 (includeF fs k path quotes)) ∧ Below w.heap.size w w' := by
  have HBs := hid (fun file W (hf : file.size ≤ 1048576) => rbeside_any file path W hf hp)
  have HFn := hid (fun q W (h : Below w.heap.size w W) => rfind_any a cap fs q W (hF.below h) (by unfold maxLen; omega))
  by_cases hk : k < 0 ∨ (fs.length : Int) ≤ k
  · have HE : Hid (includeF fs k path quotes = -1) := by show _ = _; simp [includeF, hk]
    clear HBs HFn hF hz
    by_cases hk0 : k < 0
    all_goals
      go_enter Tryd.func14, Tryd.ntmps14
      go_wp2
      go_ret
      exact ⟨ret_int HE.out.symm, Below.refl _ _⟩
  · have hk0 : ¬ k < 0 := fun h => hk (.inl h)
    have hk1 : ¬ (fs.length : Int) ≤ k := fun h => hk (.inr h)
    obtain ⟨i, rfl⟩ : ∃ i : Nat, k = i := ⟨k.toNat, by omega⟩
    have hi : i < fs.length := by omega
    cases quotes with
    | false =>
      have HE : Hid (includeF fs i path false = findF fs (besideB libX path)) := by show _ = _; simp [includeF, hk0, hk1]
      have HB1 := hid (HBs.out libX w (by decide))
      unfold libX at HB1 HE
      generalize besideB _ path = q at HB1 HE
      clear hF hz hk HBs
      go_enter Tryd.func14, Tryd.ntmps14
      go_wp2_with fail
      refine HB1.out.mono ?_
      rintro e w1 ⟨rfl, hb1⟩
      have HX := hid hb1
      clear hb1 HB1
      go_wp2_with fail
      refine (HFn.out q w1 HX.out).mono ?_
      rintro e w2 ⟨rfl, hb2⟩
      have HX2 := hid (HX.out.trans (hb2.mono HX.out.size))
      clear hb2
      go_wp2_with fail
      go_ret
      exact ⟨ret_int HE.out.symm, HX2.out⟩
    | true =>
      rcases id hF with rfl | ⟨b, off, rfl, hb, hcs⟩
      · simp at hi
      have hgx : fs[i]? = some fs[i] := List.getElem?_eq_getElem hi
      have hcx := (hcs i fs[i] hgx).1
      have hzx := hz fs[i] (List.getElem_mem hi)
      have HE : Hid (includeF fs i path true = if 0 ≤ findF fs (besideB fs[i].1 path) then findF fs (besideB fs[i].1 path) else findF fs (besideB justX path)) := by show _ = _; simp [includeF, hk0, hk1, hi]
      have HB1 := hid (HBs.out fs[i].1 w hzx)
      generalize fs[i].1 = px at hcx HB1 HE
      have HB2 := hid (fun W => HBs.out justX W (by decide))
      unfold justX at HB2 HE
      generalize besideB px path = q1 at HB1 HE
      generalize besideB _ path = q2 at HB2 HE
      have HF1 := hid (HFn.out q1)
      have HF2 := hid (HFn.out q2)
      generalize findF fs q1 = r1 at HF1 HE
      generalize findF fs q2 = r2 at HF2 HE
      clear hF hz hk HBs HFn hgx hcs hzx
      go_enter Tryd.func14, Tryd.ntmps14
      go_wp2_with fail
      refine HB1.out.mono ?_
      rintro e w1 ⟨rfl, hb1⟩
      have HX := hid hb1
      clear hb1 HB1
      go_wp2_with fail
      refine (HF1.out w1 HX.out).mono ?_
      rintro e w2 ⟨rfl, hb2⟩
      have HX2 := hid (HX.out.trans (hb2.mono HX.out.size))
      clear hb2 HF1
      by_cases h0 : 0 ≤ r1
      · have HE' : Hid (includeF fs i path true = r1) := by show _ = _; rw [HE.out, if_pos h0]
        have hd : decide (r1 < 0) = false := by simp; omega
        clear HE HF2
        go_wp2_with fail
        go_ret
        exact ⟨ret_int HE'.out.symm, HX2.out⟩
      · have HE' : Hid (includeF fs i path true = r2) := by show _ = _; rw [HE.out, if_neg h0]
        have hd : decide (r1 < 0) = true := by simp; omega
        clear HE
        go_wp2_with fail
        refine (HB2.out w2).mono ?_
        rintro e w3 ⟨rfl, hb3⟩
        have HX3 := hid (HX2.out.trans (hb3.mono HX2.out.size))
        clear hb3
        go_wp2_with fail
        refine (HF2.out w3 HX3.out).mono ?_
        rintro e w4 ⟨rfl, hb4⟩
        have HX4 := hid (HX3.out.trans (hb4.mono HX3.out.size))
        clear hb4
        go_wp2_with fail
        go_ret
        exact ⟨ret_int HE'.out.symm, HX4.out⟩

end Go.Proofs.YthklodlhbafehaaDoor
