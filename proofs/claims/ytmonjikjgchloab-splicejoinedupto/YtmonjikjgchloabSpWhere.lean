/- Walks of Back. -/
import Derived.Test.YtmonjikjgchloabSpAt
import Derived.Shelf.SlGeneric
namespace Go.Proofs.Ytmonjikjgchloab
open Go.RowKit Go.Shelf

/-- The first place of a list whose number is at least k. -/
def firstGe (l : List Nat) (k : Int) : Int := match l.findIdx? (fun (p : Nat) => decide (k ≤ (p : Int))) with | some j => j | none => -1

theorem firstGe_hit (l : List Nat) (k : Int) (j : Nat) (hj : j < l.length) (hx : k ≤ (l[j] : Int)) (hn : ∀ i (h : i < j), ¬ k ≤ ((l[i]'(by omega)) : Int)) : (j : Int) = firstGe l k := by
  have : l.findIdx? (fun (p : Nat) => decide (k ≤ (p : Int))) = some j := by
    rw [List.findIdx?_eq_some_iff_getElem]
    exact ⟨hj, by simpa using hx, fun i hi => by simpa using hn i hi⟩
  simp [firstGe, this]
theorem firstGe_miss (l : List Nat) (k : Int) (hn : ∀ i (h : i < l.length), ¬ k ≤ (l[i] : Int)) : -1 = firstGe l k := by
  have : l.findIdx? (fun (p : Nat) => decide (k ≤ (p : Int))) = none := by
    rw [List.findIdx?_eq_none_iff_findIdx_eq, List.findIdx_eq_length]
    intro x hx
    obtain ⟨i, hi, rfl⟩ := List.mem_iff_getElem.1 hx
    simpa using hn i hi
  simp [firstGe, this]

theorem back1_any (k : Int) (y B : Nat) (w : World) (hB : w.cell? ⟨B, 0, none⟩ = some (.int .i64 k)) :
    Calls Try.prog 11 #[.int .i64 (y : Int), .pointer (some ⟨B, 0, none⟩)] w fun e w' => e = .returned (.bool (decide (k ≤ (y : Int)))) ∧ w' = w := by
  go_enter Try.func11, Try.ntmps11
  go_wp2
  go_ret
  exact ⟨rfl, rfl⟩

set_option maxHeartbeats 400000 in
theorem IndexFunc_any (k : Int) (B b c : Nat) (l : List Nat) (w : World) (hI : IAt w b l) (hB : w.cell? ⟨B, 0, none⟩ = some (.int .i64 k)) (hl : l.length ≤ 2097152) :
    Calls Try.prog 10 #[.slice (some ⟨b, 0, none⟩) l.length c, .func (.func 11) #[] #[.pointer (some ⟨B, 0, none⟩)]] w fun e w' => e = .returned (.int .i64 (firstGe l k)) ∧ w' = w := by
  have eg : ∀ args w, (callFunc 11 args).run Try.prog w = .ok (.enter 11 args) w := enters_of Try.func11 (by kernel_rfl) rfl
  go_enter Try.func10, Try.ntmps10
  go_wp2_with fail
  go_loop [5, 8] (fun _ x => ∃ j : Nat, j ≤ l.length ∧ x = .int .i64 j ∧ Hid (∀ i (h : i < l.length), i < j → (l[i] : Int) < k)) (fun _ x => l.length - (intOf x).toNat)
  case atStart => exact ⟨0, Nat.zero_le _, rfl, fun i _ h => by omega⟩
  case round =>
    obtain ⟨j, hj, rfl, HN⟩ := hrel
    by_cases hlt : j < l.length
    · have hc := hI.2 j hlt
      have HC := hid (back1_any k l[j] B w hB)
      by_cases hge : k ≤ (l[j] : Int)
      · have HE := hid (firstGe_hit l k j hlt hge (fun i hi => by have := HN.out i (by omega) hi; omega))
        generalize l[j] = y at hc HC hge
        rw [decide_eq_true hge] at HC
        clear hB hge
        go_wp2_with (go_at_call 11; refine HC.out.mono ?_; rintro e w' ⟨rfl, hww⟩; subst w')
        go_ret
        exact ⟨ret_int HE.out, rfl⟩
      · have HN2 := hid (fun (i : Nat) (h : i < l.length) (hi : i < j + 1) => show (l[i] : Int) < k from by
          by_cases hij : i = j
          · subst hij; omega
          · exact HN.out i h (by omega))
        generalize l[j] = y at hc HC hge
        rw [decide_eq_false hge] at HC
        clear hB hge
        go_wp2_with (go_at_call 11; refine HC.out.mono ?_; rintro e w' ⟨rfl, hww⟩; subst w')
        go_round
        case rel => exact ⟨j + 1, by omega, by go_num, HN2.out⟩
        case measure => simp [intOf]; omega
    · have HE := hid (firstGe_miss l k (fun i hi => by have := HN.out i hi (by omega); omega))
      go_wp2_with fail
      go_ret
      exact ⟨ret_int HE.out, rfl⟩

def backI (l : List Nat) (k : Int) : Int := if k < 0 then -1 else firstGe l k

set_option maxHeartbeats 400000 in
theorem Back_any (T : ByteArray) (b c : Nat) (l : List Nat) (k : Int) (w : World) (hI : IAt w b l) (hl : l.length ≤ 2097152) :
    Calls Try.prog 7 #[.agg #[.string T, .slice (some ⟨b, 0, none⟩) l.length c], .int .i64 k] w fun e w' => e = .returned (.int .i64 (backI l k)) ∧ Below w.heap.size w w' := by
  have HB := hid (fun o o' => ((Below.refl _ w).alloc (Nat.le_refl _) o).alloc (by simp) o')
  by_cases hk : k < 0
  · have HE := hid (show -1 = backI l k by simp [backI, hk])
    go_enter Try.func7, Try.ntmps7
    go_wp2
    go_ret
    exact ⟨ret_int HE.out, HB.out _ _⟩
  · have HE := hid (show firstGe l k = backI l k by simp [backI, hk])
    have hk0 : 0 ≤ k := by omega
    have HF := hid (IndexFunc_any k (w.heap.size + 1) b c l ((w.alloc (Obj.cells #[Value.string T, Value.slice (some ⟨b, 0, none⟩) l.length c] 25)).alloc (Obj.cells #[Value.int IntKind.i64 k] 3))
      (hI.below (HB.out _ _)) (by rw [show w.heap.size + 1 = (w.alloc (Obj.cells #[Value.string T, Value.slice (some ⟨b, 0, none⟩) l.length c] 25)).heap.size by simp, World.cell?_alloc_mark]; rfl) hl)
    go_enter Try.func7, Try.ntmps7
    go_wp2_with (go_at_call 10; refine HF.out.mono ?_; rintro e w' ⟨rfl, rfl⟩)
    go_ret
    exact ⟨ret_int HE.out, HB.out _ _⟩
end Go.Proofs.Ytmonjikjgchloab
