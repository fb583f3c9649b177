/- Walk of Include: a call returns the number of the file that is meant, or -1, and leaves all that lay in memory as it was. -/
import Derived.Test.YthklodlhbafehaaDoorBeside
import Derived.Test.YthklodlhbafehaaDoorLater
namespace Go.Proofs.YthklodlhbafehaaDoor
open Go.RowKit Go.Shelf

set_option maxHeartbeats 1000000 in
theorem meant_any (a : Option Addr) (cap : Nat) (fs : List Src) (file path : ByteArray) (B1 B2 : Nat) (w : World) (h1 : w.cell? ⟨B1, 0, none⟩ = some (.slice a fs.length cap)) (h2 : w.cell? ⟨B2, 0, none⟩ = some (.string path))
    (hm : Mx w) (hF : FAt w a fs) (hn : fs.length ≤ maxLen) (hz : file.size + path.size ≤ 70368744177664) :
    Calls Tryd.prog 28 #[.string file, .pointer (some ⟨B1, 0, none⟩), .pointer (some ⟨B2, 0, none⟩)] w fun e w' => e = .returned (.int .i64 (findF fs (besideB file path))) ∧ Below w.heap.size w w' := by
  have hne : Nonempty (Later w) := ⟨⟨w, Below.refl _ _⟩⟩
  have c1 := Later.cell h1
  have c2 := Later.cell h2
  have hbes := fun p : Later w => Beside_any file path p.W (hm.below p.hb) hz
  have hfin := fun p : Later w => Find_any a cap fs (besideB file path) p.W (hF.below p.hb) hn
  have HB := hid hbes
  have HI := hid hfin
  generalize hr : findF fs (besideB file path) = r at hfin HI ⊢
  generalize besideB file path = q at hbes HB hfin HI hr
  clear hbes hfin hr hm hF hn hz
  go_enter Tryd.func28, Tryd.ntmps28
  go_wp2
  refine region_later (by kernel_rfl) (by kernel_rfl) ?_
  repeat (quiet_step (first | (go_at_call 15; exact Calls.later (HB.out _)) | (go_at_call 11; exact Calls.later (HI.out _))))
  refine wpQuiet_nil ?_
  rintro _ ⟨p, rfl⟩
  go_wp2
  go_ret
  exact ⟨rfl, p.hb⟩

def libX : ByteArray := { data := #[108, 105, 98, 47, 120] }
def justX : ByteArray := { data := #[120] }
/-- Which file is meant. -/
def includeF (fs : List Src) (k : Int) (path : ByteArray) (quotes : Bool) : Int :=
  if k < 0 ∨ (fs.length : Int) ≤ k then -1
  else if quotes = false then findF fs (besideB libX path)
  else if 0 ≤ findF fs (besideB (fs[k.toNat]?.getD default).1 path) then findF fs (besideB (fs[k.toNat]?.getD default).1 path) else findF fs (besideB justX path)

set_option maxHeartbeats 1000000 in
theorem Include_any (a : Option Addr) (cap : Nat) (fs : List Src) (k : Int) (path : ByteArray) (quotes : Bool) (w : World)
    (hm : Mx w) (hF : FAt w a fs) (hn : fs.length ≤ maxLen) (hz : ∀ x ∈ fs, x.1.size + path.size ≤ 70368744177664) (hp : path.size ≤ 70368744000000) :
    Calls Tryd.prog 13 #[.slice a fs.length cap, .int .i64 k, .string path, .bool quotes] w fun e w' => e = .returned (.int .i64 (includeF fs k path quotes)) ∧ Below w.heap.size w w' := by
  have hb0 : Below w.heap.size w ((w.alloc (.cells #[.slice a fs.length cap] 23)).alloc (.cells #[.string path] 9)) := ((Below.refl _ w).alloc (Nat.le_refl _) _).alloc (by simp) _
  have eg : ∀ args w, (callFunc 28 args).run Tryd.prog w = .ok (.enter 28 args) w := enters_of Tryd.func28 (by kernel_rfl) rfl
  have hcon : ∀ file W, Below ((w.alloc (.cells #[.slice a fs.length cap] 23)).alloc (.cells #[.string path] 9)).heap.size ((w.alloc (.cells #[.slice a fs.length cap] 23)).alloc (.cells #[.string path] 9)) W → file.size + path.size ≤ 70368744177664 →
      Calls Tryd.prog 28 #[.string file, .pointer (some ⟨w.heap.size, 0, none⟩), .pointer (some ⟨w.heap.size + 1, 0, none⟩)] W fun e w' => e = .returned (.int .i64 (findF fs (besideB file path))) ∧ Below W.heap.size W w' := fun file W hW hz => by
    have hbW := hb0.trans (hW.mono hb0.size)
    refine meant_any a cap fs file path w.heap.size (w.heap.size + 1) W ?_ ?_ (hm.below hbW) (hF.below hbW) hn hz
    · rw [hW.cell (p := ⟨w.heap.size, 0, none⟩) (by simp; omega)]; simp
    · rw [hW.cell (p := ⟨w.heap.size + 1, 0, none⟩) (by simp)]; simp
  unfold maxLen at hn
  by_cases hk : k < 0 ∨ (fs.length : Int) ≤ k
  · have HE : Hid (includeF fs k path quotes = -1) := by show _ = _; simp [includeF, hk]
    have HB := hid hb0
    clear hcon hm hF hz hp hb0
    by_cases hk0 : k < 0
    all_goals
      go_enter Tryd.func13, Tryd.ntmps13
      go_wp2
      go_ret
      exact ⟨ret_int HE.out.symm, HB.out⟩
  · have hk0 : ¬ k < 0 := fun h => hk (.inl h)
    have hk1 : ¬ (fs.length : Int) ≤ k := fun h => hk (.inr h)
    obtain ⟨i, rfl⟩ : ∃ i : Nat, k = i := ⟨k.toNat, by omega⟩
    have hi : i < fs.length := by omega
    have HB := hid hb0
    cases quotes with
    | false =>
      have HE : Hid (includeF fs i path false = findF fs (besideB libX path)) := by show _ = _; simp [includeF, hk0, hk1]
      have hc := hcon libX _ (Below.refl _ _) (by have : libX.size = 5 := rfl; omega)
      clear hcon hm hF hz hk hb0
      unfold libX at hc
      go_enter Tryd.func13, Tryd.ntmps13
      go_wp2_with fail
      refine hc.mono ?_
      rintro e w' ⟨rfl, hb'⟩
      go_wp2
      go_ret
      exact ⟨ret_int HE.out.symm, HB.out.trans (hb'.mono HB.out.size)⟩
    | true =>
      rcases id hF with rfl | ⟨b, off, rfl, hb, hcs⟩
      · simp at hi
      have hgx : fs[i]? = some fs[i] := List.getElem?_eq_getElem hi
      have hcx := (hcs i fs[i] hgx).1
      have hzx := hz fs[i] (List.getElem_mem hi)
      have hcx2 : ((w.alloc (.cells #[.slice (some ⟨b, off, none⟩) fs.length cap] 23)).alloc (.cells #[.string path] 9)).cell? ⟨b, off + i * 2, none⟩ = some (.string fs[i].1) := by
        rw [HB.out.cell (p := ⟨b, off + i * 2, none⟩) hb]; exact hcx
      have HE : Hid (includeF fs i path true = if 0 ≤ findF fs (besideB fs[i].1 path) then findF fs (besideB fs[i].1 path) else findF fs (besideB justX path)) := by show _ = _; simp [includeF, hk0, hk1, hi]
      have hc1 := hcon fs[i].1 _ (Below.refl _ _) hzx
      have hc2 := fun W hW => hcon justX W hW (by have : justX.size = 1 := rfl; omega)
      generalize findF fs (besideB fs[i].1 path) = r1 at hc1 HE
      unfold justX at hc2 HE
      generalize findF fs (besideB _ path) = r2 at hc2 HE
      generalize fs[i].1 = px at hcx2 hc1
      have HC2 := hid hc2
      clear hcon hm hF hz hk hb0 hgx hcx hzx hcs hc2
      have hcl : w.heap.size ≠ b := by omega
      by_cases h0 : 0 ≤ r1
      · have HE' : Hid (includeF fs i path true = r1) := by show _ = _; rw [HE.out, if_pos h0]
        go_enter Tryd.func13, Tryd.ntmps13
        go_wp2_with fail
        refine hc1.mono ?_
        rintro e w' ⟨rfl, hb'⟩
        go_wp2_with fail
        go_ret
        exact ⟨ret_int HE'.out.symm, HB.out.trans (hb'.mono HB.out.size)⟩
      · have HE' : Hid (includeF fs i path true = r2) := by show _ = _; rw [HE.out, if_neg h0]
        go_enter Tryd.func13, Tryd.ntmps13
        go_wp2_with fail
        refine hc1.mono ?_
        rintro e w' ⟨rfl, hb'⟩
        go_wp2_with fail
        refine (HC2.out _ hb').mono ?_
        rintro e w'' ⟨rfl, hb''⟩
        go_wp2_with fail
        go_ret
        exact ⟨ret_int HE'.out.symm, HB.out.trans ((hb'.trans (hb''.mono hb'.size)).mono HB.out.size)⟩

end Go.Proofs.YthklodlhbafehaaDoor
