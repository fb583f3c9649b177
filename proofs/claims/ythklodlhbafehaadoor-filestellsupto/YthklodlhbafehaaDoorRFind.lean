/- Walk of the document's own Find: a call returns what Find's spec says. -/
import Derived.Test.YthklodlhbafehaaDoorRWrong
namespace Go.Proofs.YthklodlhbafehaaDoor
open Go.RowKit Go.Shelf

def findGo (path : ByteArray) (k : Nat) (l : List Src) : Int := Lib.idxByFrom (fun _ y => isPath path y) default l k
theorem findGo_zero (fs : List Src) (path : ByteArray) : findF fs path = findGo path 0 fs := rfl
theorem findGo_hit (path : ByteArray) (k : Nat) (x : Src) (r : List Src) (h : isPath path x = true) : findGo path k (x :: r) = k := by
  unfold findGo; simp only [Lib.idxByFrom]; rw [if_pos h]
theorem findGo_miss (path : ByteArray) (k : Nat) (x : Src) (r : List Src) (h : isPath path x = false) : findGo path k (x :: r) = findGo path (k + 1) r := by
  unfold findGo; simp only [Lib.idxByFrom]; rw [if_neg (by simp [h])]

set_option maxRecDepth 100000 in
set_option maxHeartbeats 1000000 in
theorem rfind_any (a : Option Addr) (cap : Nat) (fs : List Src) (path : ByteArray) (w : World) (hF : FAt w a fs) (hn : fs.length ≤ maxLen) :
    Calls Tryd.prog 12 #[.slice a fs.length cap, .string path] w fun e w' => e = .returned (.int .i64 (findF fs path)) ∧ Below w.heap.size w w' := by
  unfold maxLen at hn
  go_enter Tryd.func12, Tryd.ntmps12
  go_wp2_with fail
  go_loopw [9] (fun i wr => ∃ j : Nat, j ≤ fs.length ∧ i = .int .i64 j ∧ Hid (Below w.heap.size w wr ∧ findF fs path = findGo path j (fs.drop j))) (fun i _ => fs.length - (intOf i).toNat)
  case atStart => exact ⟨0, Nat.zero_le _, rfl, Below.refl _ _, rfl⟩
  case round =>
    obtain ⟨j, hj, rfl, H⟩ := hrel
    have HB := hid H.out.1
    have HG := hid H.out.2
    clear H
    by_cases hlt : j < fs.length
    · have hgx : fs[j]? = some fs[j] := List.getElem?_eq_getElem hlt
      have HD : Hid (fs.drop j = fs[j] :: fs.drop (j + 1)) := List.drop_eq_getElem_cons hlt
      rcases id hF with h0 | ⟨b, off, rfl, hb, hc⟩
      · rw [h0] at hlt; simp at hlt
      obtain ⟨c0, c1⟩ := hc j fs[j] hgx
      rw [← HB.out.cell (p := ⟨b, _, none⟩) hb] at c0 c1
      generalize fs[j] = x at c0 c1 HD
      obtain ⟨px, tx⟩ := x
      dsimp only at c0 c1
      have HB2 := hid (HB.out.alloc HB.out.size (.cells #[.string px, .string tx] 33))
      clear hc hgx
      cases he : (px.toList == path.toList) with
      | true =>
        have HE : Hid (findF fs path = (j : Int)) := by show _ = _; rw [HG.out, HD.out]; exact findGo_hit path j _ _ he
        clear HG HD
        go_wp2_with fail
        go_ret
        exact ⟨ret_int HE.out.symm, HB2.out⟩
      | false =>
        have HE : Hid (findF fs path = findGo path (j + 1) (fs.drop (j + 1))) := by show _ = _; rw [HG.out, HD.out]; exact findGo_miss path j _ _ he
        clear HG HD
        go_wp2_with fail
        go_roundw
        case rel => exact ⟨j + 1, by omega, by go_num, HB2.out, HE.out⟩
        case measure => simp [intOf]; omega
    · have HE : Hid (findF fs path = -1) := by show _ = _; rw [HG.out, List.drop_eq_nil_of_le (by omega)]; rfl
      clear HG
      go_wp2_with fail
      go_ret
      exact ⟨ret_int HE.out.symm, HB.out⟩

end Go.Proofs.YthklodlhbafehaaDoor
